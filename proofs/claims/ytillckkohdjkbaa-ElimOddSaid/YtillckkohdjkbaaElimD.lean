/- What a seller has sold to a buyer. '==' of two items. elim.sold, total, slices.Equal of items by contract. elim.total, slices.Equal of items by contract. -/
import Derived.Test.YtillckkohdjkbaaInsX
import Derived.Test.YtillckkohdjkbaaBookOpen
import Derived.Test.YtillckkohdjkbaaBookDel
import Derived.Test.YtillckkohdjkbaaItmEq
import Derived.Laws.StructEq
import Derived.Test.YtillckkohdjkbaaBookOpen2
namespace Go.Proofs.Ytillckkohdjkbaa
open Go.RowKit
def soldB (s b c : Int) (x : Itm) : Bool := x.t == 3 && x.c == c && x.s == s && x.b == b
def unC (x : Itm) : Itm := { x with y := 0 }
def soldL (s b c : Int) (xs : List Itm) : List Itm := (xs.filter (soldB s b c)).map unC
def amtS (xs : List Itm) : Int := (xs.map (·.a)).sum
def Okx (xs : List Itm) : Prop := ∀ x ∈ xs, 1 ≤ x.a ∧ x.a ≤ 1125899906842624
theorem soldL_len (s b c : Int) (xs : List Itm) : (soldL s b c xs).length ≤ xs.length := by
  unfold soldL
  rw [List.length_map]
  exact List.length_filter_le _ _
theorem soldL_ok {s b c : Int} {xs : List Itm} (h : Okx xs) : Okx (soldL s b c xs) := by
  intro x hx
  unfold soldL at hx
  obtain ⟨y, hy, rfl⟩ := List.mem_map.1 hx
  exact h y (List.mem_filter.1 hy).1
theorem soldL_take {s b c : Int} {xs : List Itm} {k : Nat} (hk : k < xs.length) : soldL s b c (xs.take (k + 1)) = soldL s b c (xs.take k) ++ (if soldB s b c xs[k] then [unC xs[k]] else []) := by
  unfold soldL
  rw [List.take_succ_eq_append_getElem hk, List.filter_append, List.map_append]
  congr 1
  cases h : soldB s b c xs[k] <;> simp [h]
theorem amts_small {xs : List Itm} (h : Okx xs) (hl : xs.length ≤ 2000) : 0 ≤ amtS xs ∧ amtS xs ≤ 1125899906842624 * 2000 := by
  have : 0 ≤ amtS xs ∧ amtS xs ≤ 1125899906842624 * (xs.length : Int) := by
    unfold amtS
    induction xs with
    | nil => simp
    | cons a t ih =>
      have h1 := h a (by simp)
      have h2 := ih (fun b hb => h b (by simp [hb])) (by simp at hl; omega)
      simp only [List.map_cons, List.sum_cons, List.length_cons, Int.natCast_add, Int.natCast_one, Int.mul_add, Int.mul_one]
      omega
  have h3 : (1125899906842624 : Int) * (xs.length : Int) ≤ 1125899906842624 * 2000 := Int.mul_le_mul_of_nonneg_left (by omega) (by omega)
  omega
end Go.Proofs.Ytillckkohdjkbaa
namespace Go.Proofs.Ytillckkohdjkbaa
open Go.RowKit
end Go.Proofs.Ytillckkohdjkbaa
namespace Go.Proofs.Ytillckkohdjkbaa
open Go.RowKit
set_option linter.unusedSimpArgs false in
set_option maxHeartbeats 4000000 in
set_option maxRecDepth 100000 in
theorem sold_any (w : World) (me : Int) (pi : Option Addr) (ni ci : Nat) (po : Option Addr) (no co : Nat) (s b c : Int) (xs : List Itm) (hr : TRow encI w (.slice pi ni ci) xs) (hl : xs.length = ni) (hn : xs.length ≤ 2000) :
    Calls Try.prog 16 #[bookV me (.slice pi ni ci) (.slice po no co), .int .i64 s, .int .i64 b, .int .i64 c] w fun e w' => ∃ v', e = .returned v' ∧ OwnT encI w' w.heap.size 39 v' (soldL s b c xs) ∧ Below w.heap.size w w' := by
  have HR := Lib.hid hr
  have HL := Lib.hid hl
  have hn2 : ni ≤ 2000 := by omega
  clear hr hl hn
  have HB0 := Lib.hid (oneB w (.cells #[.int .i64 me, .slice pi ni ci, .slice po no co] 26))
  have HX0 := Lib.hid (Blk.new w #[.int .i64 me, .slice pi ni ci, .slice po no co] 26)
  unfold bookV
  go_enter Try.func16, Try.ntmps16
  go_wp2_with fail
  generalize w.alloc (.cells #[.int .i64 me, .slice pi ni ci, .slice po no co] 26) = W0 at *
  have HREL : Hid (OwnT encI W0 w.heap.size 39 (.slice none 0 0) (soldL s b c (xs.take 0)) ∧ Below w.heap.size w W0) := ⟨OwnT.nil_ _ _ _ _, HB0.out⟩
  go_loopw [9, 15] (fun v i wr => ∃ k : Nat, k ≤ ni ∧ i = .int .i64 k ∧ Hid (OwnT encI wr w.heap.size 39 v (soldL s b c (xs.take k)) ∧ Below w.heap.size w wr)) (fun _ i _ => ni - (intOf i).toNat)
  case atStart => exact ⟨0, by omega, rfl, HREL⟩
  case round =>
    obtain ⟨k, hk, rfl, HJ⟩ := hrel
    clear HREL
    by_cases hlt : k < ni
    · have hkl : k < xs.length := by rw [HL.out]; exact hlt
      have hltI : (k : Int) < (ni : Int) := by omega
      have HFS := Lib.hid (soldL_take (s := s) (b := b) (c := c) hkl)
      obtain ⟨b2, o2, rfl, hb2l, hcs⟩ := (HR.out.kept HJ.out.2).at_ k hkl
      generalize xs[k] = x at *
      have c0 : wr.cell? ⟨b2, o2 + k * 8, none⟩ = some (.int .i64 x.s) := hcs 0 (by decide)
      have c1 : wr.cell? ⟨b2, o2 + k * 8 + 1, none⟩ = some (.int .i64 x.n) := hcs 1 (by decide)
      have c2 : wr.cell? ⟨b2, o2 + k * 8 + 2, none⟩ = some (.int .i64 x.b) := hcs 2 (by decide)
      have c3 : wr.cell? ⟨b2, o2 + k * 8 + 3, none⟩ = some (.int .i64 x.c) := hcs 3 (by decide)
      have c4 : wr.cell? ⟨b2, o2 + k * 8 + 4, none⟩ = some (.int .i64 x.a) := hcs 4 (by decide)
      have c5 : wr.cell? ⟨b2, o2 + k * 8 + 5, none⟩ = some (.int .i64 x.r) := hcs 5 (by decide)
      have c6 : wr.cell? ⟨b2, o2 + k * 8 + 6, none⟩ = some (.int .i64 x.t) := hcs 6 (by decide)
      have c7 : wr.cell? ⟨b2, o2 + k * 8 + 7, none⟩ = some (.int .i64 x.y) := hcs 7 (by decide)
      obtain ⟨ho1, hw1⟩ := HJ.out
      obtain ⟨pz, cz, hvz⟩ := ho1.form
      have HZL : Hid ((soldL s b c (xs.take k)).length ≤ 2000) := by
        show _ ≤ _
        have h2 := soldL_len s b c (xs.take k)
        rw [List.length_take] at h2
        omega
      generalize hz : soldL s b c (xs.take k) = zs at *
      generalize hm : zs.length = m at *
      subst hvz
      have HMZ := Lib.hid hm
      have HO := Lib.hid (ho1.later (oneB wr (.cells #[.int .i64 x.s, .int .i64 x.n, .int .i64 x.b, .int .i64 x.c, .int .i64 x.a, .int .i64 x.r, .int .i64 x.t, .int .i64 x.y] 39)))
      have HU := Lib.hid (ho1.later (oneB wr (.cells #[.int .i64 x.s, .int .i64 x.n, .int .i64 x.b, .int .i64 x.c, .int .i64 x.a, .int .i64 x.r, .int .i64 x.t, .int .i64 0] 39)))
      have HWU := Lib.hid (hw1.trans ((oneB wr (.cells #[.int .i64 x.s, .int .i64 x.n, .int .i64 x.b, .int .i64 x.c, .int .i64 x.a, .int .i64 x.r, .int .i64 x.t, .int .i64 0] 39)).mono hw1.size))
      have HW := Lib.hid (hw1.trans ((oneB wr (.cells #[.int .i64 x.s, .int .i64 x.n, .int .i64 x.b, .int .i64 x.c, .int .i64 x.a, .int .i64 x.r, .int .i64 x.t, .int .i64 x.y] 39)).mono hw1.size))
      have HZZ := Lib.hid hz
      have hm7 : m ≤ 2000 := HZL.out
      clear ho1 hw1 HJ hcs hz hm
      by_cases ht : x.t = 3
      · by_cases hc : x.c = c
        · by_cases hs : x.s = s
          · by_cases hb : x.b = b
            · have HSB : Hid (soldB s b c x = true) := by show _ = _; unfold soldB; simp [ht, hc, hs, hb]
              have e1 : (x.t == 3) = true := by simpa using ht
              have e2 : (x.c == c) = true := by simpa using hc
              have e3 : (x.s == s) = true := by simpa using hs
              have e4 : (x.b == b) = true := by simpa using hb
              clear ht hc hs hb
              have HFY : Hid (soldL s b c (xs.take (k + 1)) = zs ++ [unC x]) := by show _ = _; rw [HFS.out, HSB.out, if_pos rfl]
              clear HFS HSB
              go_wp2_with (at_builtin; with_reducible refine stop_appendI (.tmp 42) (.tmp 44) 22 rfl ?_)
              refine wpList_append_t rfl (.tmp 42) (.tmp 44) 22 rfl 39 zeroVI 64 w.heap.size eltI rfl (by decide) (.slice pz m cz) (.slice (some ⟨wr.heap.size + 1, 0, none⟩) 1 1) zs [unC x] rfl rfl (HU.out.later (oneB _ (.cells #[.int .i64 x.s, .int .i64 x.n, .int .i64 x.b, .int .i64 x.c, .int .i64 x.a, .int .i64 x.r, .int .i64 x.t, .int .i64 0] 39))) (TRow.one_ encI (unC x) (Blk.new' (wr.alloc (.cells #[.int .i64 x.s, .int .i64 x.n, .int .i64 x.b, .int .i64 x.c, .int .i64 x.a, .int .i64 x.r, .int .i64 x.t, .int .i64 0] 39)) #[.int .i64 x.s, .int .i64 x.n, .int .i64 x.b, .int .i64 x.c, .int .i64 x.a, .int .i64 x.r, .int .i64 x.t, .int .i64 0] 39 (b := wr.heap.size + 1) (by simp)) rfl (Nat.le_refl _)) (by have := HMZ.out; simp; omega) (by have := HWU.out.size; simp at this ⊢; omega) (zs ++ [unC x]) (m + 1) rfl (by rw [List.length_append, HMZ.out]; rfl) ?_
              intro p9 c9 w9 ho9 _ hb9
              have HNX : Hid (OwnT encI w9 w.heap.size 39 (.slice p9 (m + 1) c9) (soldL s b c (xs.take (k + 1))) ∧ Below w.heap.size w w9) := ⟨by rw [HFY.out]; exact ho9, HWU.out.trans (((Below.refl _ _).alloc HWU.out.size _).trans hb9)⟩
              clear ho9 hb9
              go_wp2_with fail
              go_roundw
              case rel => exact ⟨k + 1, by omega, by go_num, HNX⟩
              case measure => simp [intOf]; omega
            · have HSB : Hid (soldB s b c x = false) := by show _ = _; unfold soldB; simp [hb]
              have e1 : (x.t == 3) = true := by simpa using ht
              have e2 : (x.c == c) = true := by simpa using hc
              have e3 : (x.s == s) = true := by simpa using hs
              have e4 : (x.b == b) = false := by simpa using hb
              clear ht hc hs hb
              have HNX : Hid (OwnT encI (wr.alloc (.cells #[.int .i64 x.s, .int .i64 x.n, .int .i64 x.b, .int .i64 x.c, .int .i64 x.a, .int .i64 x.r, .int .i64 x.t, .int .i64 x.y] 39)) w.heap.size 39 (.slice pz m cz) (soldL s b c (xs.take (k + 1))) ∧ Below w.heap.size w (wr.alloc (.cells #[.int .i64 x.s, .int .i64 x.n, .int .i64 x.b, .int .i64 x.c, .int .i64 x.a, .int .i64 x.r, .int .i64 x.t, .int .i64 x.y] 39))) := ⟨by rw [HFS.out, HSB.out, if_neg (by decide), List.append_nil]; exact HO.out, HW.out⟩
              clear HFS HSB
              go_wp2_with fail
              go_roundw
              case rel => exact ⟨k + 1, by omega, by go_num, HNX⟩
              case measure => simp [intOf]; omega
          · have HSB : Hid (soldB s b c x = false) := by show _ = _; unfold soldB; simp [hs]
            have e1 : (x.t == 3) = true := by simpa using ht
            have e2 : (x.c == c) = true := by simpa using hc
            have e3 : (x.s == s) = false := by simpa using hs
            clear ht hc hs
            have HNX : Hid (OwnT encI (wr.alloc (.cells #[.int .i64 x.s, .int .i64 x.n, .int .i64 x.b, .int .i64 x.c, .int .i64 x.a, .int .i64 x.r, .int .i64 x.t, .int .i64 x.y] 39)) w.heap.size 39 (.slice pz m cz) (soldL s b c (xs.take (k + 1))) ∧ Below w.heap.size w (wr.alloc (.cells #[.int .i64 x.s, .int .i64 x.n, .int .i64 x.b, .int .i64 x.c, .int .i64 x.a, .int .i64 x.r, .int .i64 x.t, .int .i64 x.y] 39))) := ⟨by rw [HFS.out, HSB.out, if_neg (by decide), List.append_nil]; exact HO.out, HW.out⟩
            clear HFS HSB
            go_wp2_with fail
            go_roundw
            case rel => exact ⟨k + 1, by omega, by go_num, HNX⟩
            case measure => simp [intOf]; omega
        · have HSB : Hid (soldB s b c x = false) := by show _ = _; unfold soldB; simp [hc]
          have e1 : (x.t == 3) = true := by simpa using ht
          have e2 : (x.c == c) = false := by simpa using hc
          clear ht hc
          have HNX : Hid (OwnT encI (wr.alloc (.cells #[.int .i64 x.s, .int .i64 x.n, .int .i64 x.b, .int .i64 x.c, .int .i64 x.a, .int .i64 x.r, .int .i64 x.t, .int .i64 x.y] 39)) w.heap.size 39 (.slice pz m cz) (soldL s b c (xs.take (k + 1))) ∧ Below w.heap.size w (wr.alloc (.cells #[.int .i64 x.s, .int .i64 x.n, .int .i64 x.b, .int .i64 x.c, .int .i64 x.a, .int .i64 x.r, .int .i64 x.t, .int .i64 x.y] 39))) := ⟨by rw [HFS.out, HSB.out, if_neg (by decide), List.append_nil]; exact HO.out, HW.out⟩
          clear HFS HSB
          go_wp2_with fail
          go_roundw
          case rel => exact ⟨k + 1, by omega, by go_num, HNX⟩
          case measure => simp [intOf]; omega
      · have HSB : Hid (soldB s b c x = false) := by show _ = _; unfold soldB; simp [ht]
        have e1 : (x.t == 3) = false := by simpa using ht
        clear ht
        have HNX : Hid (OwnT encI (wr.alloc (.cells #[.int .i64 x.s, .int .i64 x.n, .int .i64 x.b, .int .i64 x.c, .int .i64 x.a, .int .i64 x.r, .int .i64 x.t, .int .i64 x.y] 39)) w.heap.size 39 (.slice pz m cz) (soldL s b c (xs.take (k + 1))) ∧ Below w.heap.size w (wr.alloc (.cells #[.int .i64 x.s, .int .i64 x.n, .int .i64 x.b, .int .i64 x.c, .int .i64 x.a, .int .i64 x.r, .int .i64 x.t, .int .i64 x.y] 39))) := ⟨by rw [HFS.out, HSB.out, if_neg (by decide), List.append_nil]; exact HO.out, HW.out⟩
        clear HFS HSB
        go_wp2_with fail
        go_roundw
        case rel => exact ⟨k + 1, by omega, by go_num, HNX⟩
        case measure => simp [intOf]; omega
    · have hle : (ni : Int) ≤ (k : Int) := by omega
      have hkn : k = xs.length := by rw [HL.out]; omega
      have hK := HJ.out
      rw [hkn, List.take_length] at hK
      have HF := Lib.hid hK
      obtain ⟨pa, ca, hva⟩ := HF.out.1.form
      generalize (soldL s b c xs).length = na at hva
      subst hva
      clear HJ hK hkn
      go_wp2_with fail
      go_ret
      exact ⟨_, rfl, HF.out.1, HF.out.2⟩
end Go.Proofs.Ytillckkohdjkbaa
namespace Go.Proofs.Ytillckkohdjkbaa
open Go.RowKit
def SRel (W2 : World) (ys : List Itm) (k : Nat) (v : Value) (wr : World) : Prop := Own .i64 wr W2.heap.size 2 v ((ys.take k).map (·.a)) ∧ Below W2.heap.size W2 wr
set_option linter.unusedSimpArgs false in
set_option maxHeartbeats 4000000 in
set_option maxRecDepth 100000 in
theorem total_any (w : World) (v : Value) (ys : List Itm) (hr : TRow encI w v ys) (hn : ys.length ≤ 2000) (ha : Okx ys) :
    Calls Try.prog 17 #[v] w fun e w' => e = .returned (.tuple #[.int .i64 (amtS ys), .int .i64 0]) ∧ Below w.heap.size w w' := by
  have hb := amts_small ha hn
  have HFT : Hid (Fits (ys.map (·.a)).sum) := by show Fits _; unfold Fits; unfold amtS at hb; omega
  have H64 : Hid (All64 (ys.map (·.a))) := fun z hz => by
    obtain ⟨x, hx, rfl⟩ := List.mem_map.1 hz
    have := ha x hx
    constructor <;> omega
  have HSU : Hid (∀ W v, Row .i64 W v (ys.map (·.a)) → Calls Try.prog 28 #[v] W (SumTo (ys.map (·.a)).sum W)) := fun W v h => sum_any v _ W (by rw [List.length_map]; omega) H64.out h
  have HS : Hid (amtS ys = (ys.map (·.a)).sum) := rfl
  obtain ⟨pv, cv, rfl⟩ := hr.shape
  have HR := Lib.hid hr
  clear hr ha hb H64
  generalize hl : ys.length = n at *
  have HL := Lib.hid hl
  clear hl
  have HREL : Hid (SRel w ys 0 (.slice none 0 0) w) := ⟨Own.nil_ _ _ _ _, Below.refl _ _⟩
  go_enter Try.func17, Try.ntmps17
  go_wp2_with fail
  go_loopw [4, 9] (fun v i wr => ∃ k : Nat, k ≤ n ∧ i = .int .i64 k ∧ Hid (SRel w ys k v wr)) (fun _ i _ => n - (intOf i).toNat)
  case atStart => exact ⟨0, by omega, rfl, HREL⟩
  case round =>
    obtain ⟨k, hk, rfl, HK⟩ := hrel
    clear HREL
    by_cases hlt : k < n
    · have hkl : k < ys.length := by rw [HL.out]; exact hlt
      have hltI : (k : Int) < (n : Int) := by omega
      have HTK : Hid (ys.take (k + 1) = ys.take k ++ [ys[k]]) := List.take_succ_eq_append_getElem hkl
      obtain ⟨b, o, rfl, hbl, hcs⟩ := (HR.out.kept HK.out.2).at_ k hkl
      generalize ys[k] = x at *
      have c0 : wr.cell? ⟨b, o + k * 8, none⟩ = some (.int .i64 x.s) := hcs 0 (by decide)
      have c1 : wr.cell? ⟨b, o + k * 8 + 1, none⟩ = some (.int .i64 x.n) := hcs 1 (by decide)
      have c2 : wr.cell? ⟨b, o + k * 8 + 2, none⟩ = some (.int .i64 x.b) := hcs 2 (by decide)
      have c3 : wr.cell? ⟨b, o + k * 8 + 3, none⟩ = some (.int .i64 x.c) := hcs 3 (by decide)
      have c4 : wr.cell? ⟨b, o + k * 8 + 4, none⟩ = some (.int .i64 x.a) := hcs 4 (by decide)
      have c5 : wr.cell? ⟨b, o + k * 8 + 5, none⟩ = some (.int .i64 x.r) := hcs 5 (by decide)
      have c6 : wr.cell? ⟨b, o + k * 8 + 6, none⟩ = some (.int .i64 x.t) := hcs 6 (by decide)
      have c7 : wr.cell? ⟨b, o + k * 8 + 7, none⟩ = some (.int .i64 x.y) := hcs 7 (by decide)
      have HSUC : Hid ((ys.take (k + 1)).map (·.a) = (ys.take k).map (·.a) ++ [x.a]) := by
        show _ = _
        rw [HTK.out, List.map_append]; rfl
      have HZL : Hid (((ys.take k).map (·.a)).length ≤ 2000) := by show _ ≤ _; rw [List.length_map, List.length_take]; omega
      obtain ⟨ho1, hw1⟩ := HK.out
      obtain ⟨p2, c2, hv2⟩ := ho1.form
      generalize hz : (ys.take k).map (·.a) = zs at *
      generalize hm : zs.length = m at *
      subst hv2
      have hm2 : m ≤ 2000 := HZL.out
      have HMZ := Lib.hid hm
      have HO1 := Lib.hid (ho1.alloc (.cells #[.int .i64 x.s, .int .i64 x.n, .int .i64 x.b, .int .i64 x.c, .int .i64 x.a, .int .i64 x.r, .int .i64 x.t, .int .i64 x.y] 39))
      have HBR := Lib.hid hw1
      have HSZ : Hid (w.heap.size ≤ wr.heap.size) := hw1.size
      clear ho1 hw1 HK hz hm HTK hcs
      go_wp2_with (at_builtin; with_reducible refine stop_appendI (.tmp 13) (.tmp 16) 34 rfl ?_)
      refine wpList_append_row rfl (.tmp 13) (.tmp 16) 34 rfl 2 .i64 8 w.heap.size eltA (.slice p2 m c2) (.slice (some ⟨wr.heap.size + 1, 0, none⟩) 1 1) zs [x.a] rfl rfl (HO1.out.alloc (.cells #[.int .i64 (x.a)] 2)) ⟨some ⟨wr.heap.size + 1, 0, none⟩, 1, rfl, Nat.le_refl _, .inr ⟨wr.heap.size + 1, 0, rfl, fun i hi => ?_⟩⟩ (by have := HMZ.out; simp; omega) (by have := HMZ.out; simp; omega) (by have := HSZ.out; simp at this ⊢; omega) (zs ++ [x.a]) (m + 1) rfl (by rw [List.length_append, HMZ.out]; rfl) ?_
      · obtain rfl : i = 0 := by simp at hi; omega
        exact (Blk.new' (wr.alloc (.cells #[.int .i64 x.s, .int .i64 x.n, .int .i64 x.b, .int .i64 x.c, .int .i64 x.a, .int .i64 x.r, .int .i64 x.t, .int .i64 x.y] 39)) #[.int .i64 (x.a)] 2 (b := wr.heap.size + 1) (by simp)).cell 0
      intro p3 c3 w3 ho3 hb3
      have HNX : Hid (SRel w ys (k + 1) (.slice p3 (m + 1) c3) w3) := ⟨by rw [HSUC.out]; exact ho3, HBR.out.trans ((((Below.refl _ wr).alloc HSZ.out _).alloc (by have := HSZ.out; simp; omega) _).trans hb3)⟩
      clear ho3 hb3
      go_wp2_with fail
      go_roundw
      case rel => exact ⟨k + 1, by omega, by go_num, HNX⟩
      case measure => simp [intOf]; omega
    · have hle : (n : Int) ≤ (k : Int) := by omega
      have hkn : k = ys.length := by rw [HL.out]; omega
      have hK := HK.out
      rw [hkn] at hK
      unfold SRel at hK
      rw [List.take_length] at hK
      have HSM := Lib.hid (HSU.out _ _ hK.1.row)
      have HW := Lib.hid hK.2
      clear HK hK hkn
      go_wp2_with fail
      refine HSM.out.mono ?_
      rintro y w3 ⟨rfl, rfl⟩
      rw [sumN_yes HFT.out, sumE_yes HFT.out, ← HS.out]
      go_wp2_with fail
      go_ret2
      exact ⟨rfl, HW.out⟩
set_option linter.unusedSimpArgs false in
set_option maxHeartbeats 4000000 in
set_option maxRecDepth 100000 in
theorem eqI_any (w : World) (v1 v2 : Value) (xs ys : List Itm) (h1 : TRow encI w v1 xs) (h2 : TRow encI w v2 ys) (hn : xs.length ≤ 100000) :
    Calls Try.prog 18 #[v1, v2] w fun e w' => e = .returned (.bool (decide (xs = ys))) ∧ Below w.heap.size w w' := by
  obtain ⟨p1, c1, rfl⟩ := h1.shape
  obtain ⟨p2, c2, rfl⟩ := h2.shape
  have HR1 := Lib.hid h1
  have HR2 := Lib.hid h2
  clear h1 h2
  by_cases hl : xs.length = ys.length
  · rw [← hl]
    rw [← hl] at HR2
    have HLL := Lib.hid hl
    clear hl
    generalize hl : xs.length = n at *
    have HL := Lib.hid hl
    clear hl
    go_enter Try.func18, Try.ntmps18
    go_wp2_with fail
    go_loopw [13] (fun i wr => ∃ k : Nat, k ≤ n ∧ i = .int .i64 k ∧ Hid (Below w.heap.size w wr ∧ ∀ j (h1 : j < xs.length) (h2 : j < ys.length), j < k → xs[j] = ys[j])) (fun i _ => n - (intOf i).toNat)
    case atStart => exact ⟨0, by omega, rfl, ⟨Below.refl _ _, fun j _ _ hj => by omega⟩⟩
    case round =>
      obtain ⟨k, hk, rfl, HB⟩ := hrel
      by_cases hlt : k < n
      · have hltI : (k : Int) < (n : Int) := by omega
        have hk1 : k < xs.length := by rw [HL.out]; exact hlt
        have hk2 : k < ys.length := by rw [← HLL.out]; exact hlt
        obtain ⟨b1, o1, rfl, hb1, hcs⟩ := (HR1.out.kept HB.out.1).at_ k hk1
        obtain ⟨b2, o2, rfl, hb2, hds⟩ := (HR2.out.kept HB.out.1).at_ k hk2
        obtain ⟨x, hx⟩ : ∃ x, xs[k] = x := ⟨_, rfl⟩
        obtain ⟨y, hy⟩ : ∃ y, ys[k] = y := ⟨_, rfl⟩
        rw [hx] at hcs
        rw [hy] at hds
        have HX := Lib.hid hx
        have HY := Lib.hid hy
        clear hx hy
        have c0 : wr.cell? ⟨b1, o1 + k * 8, none⟩ = some (.int .i64 x.s) := hcs 0 (by decide)
        have c1 : wr.cell? ⟨b1, o1 + k * 8 + 1, none⟩ = some (.int .i64 x.n) := hcs 1 (by decide)
        have c2 : wr.cell? ⟨b1, o1 + k * 8 + 2, none⟩ = some (.int .i64 x.b) := hcs 2 (by decide)
        have c3 : wr.cell? ⟨b1, o1 + k * 8 + 3, none⟩ = some (.int .i64 x.c) := hcs 3 (by decide)
        have c4 : wr.cell? ⟨b1, o1 + k * 8 + 4, none⟩ = some (.int .i64 x.a) := hcs 4 (by decide)
        have c5 : wr.cell? ⟨b1, o1 + k * 8 + 5, none⟩ = some (.int .i64 x.r) := hcs 5 (by decide)
        have c6 : wr.cell? ⟨b1, o1 + k * 8 + 6, none⟩ = some (.int .i64 x.t) := hcs 6 (by decide)
        have c7 : wr.cell? ⟨b1, o1 + k * 8 + 7, none⟩ = some (.int .i64 x.y) := hcs 7 (by decide)
        have d0 : wr.cell? ⟨b2, o2 + k * 8, none⟩ = some (.int .i64 y.s) := hds 0 (by decide)
        have d1 : wr.cell? ⟨b2, o2 + k * 8 + 1, none⟩ = some (.int .i64 y.n) := hds 1 (by decide)
        have d2 : wr.cell? ⟨b2, o2 + k * 8 + 2, none⟩ = some (.int .i64 y.b) := hds 2 (by decide)
        have d3 : wr.cell? ⟨b2, o2 + k * 8 + 3, none⟩ = some (.int .i64 y.c) := hds 3 (by decide)
        have d4 : wr.cell? ⟨b2, o2 + k * 8 + 4, none⟩ = some (.int .i64 y.a) := hds 4 (by decide)
        have d5 : wr.cell? ⟨b2, o2 + k * 8 + 5, none⟩ = some (.int .i64 y.r) := hds 5 (by decide)
        have d6 : wr.cell? ⟨b2, o2 + k * 8 + 6, none⟩ = some (.int .i64 y.t) := hds 6 (by decide)
        have d7 : wr.cell? ⟨b2, o2 + k * 8 + 7, none⟩ = some (.int .i64 y.y) := hds 7 (by decide)
        have hS1 : wr.drew.cell? ⟨b1, o1 + k * 8, none⟩ = some (.int .i64 x.s) ∧ wr.drew.cell? ⟨b1, o1 + k * 8 + 1, none⟩ = some (.int .i64 x.n) ∧ wr.drew.cell? ⟨b1, o1 + k * 8 + 2, none⟩ = some (.int .i64 x.b) ∧ wr.drew.cell? ⟨b1, o1 + k * 8 + 3, none⟩ = some (.int .i64 x.c) ∧ wr.drew.cell? ⟨b1, o1 + k * 8 + 4, none⟩ = some (.int .i64 x.a) ∧ wr.drew.cell? ⟨b1, o1 + k * 8 + 5, none⟩ = some (.int .i64 x.r) ∧ wr.drew.cell? ⟨b1, o1 + k * 8 + 6, none⟩ = some (.int .i64 x.t) ∧ wr.drew.cell? ⟨b1, o1 + k * 8 + 7, none⟩ = some (.int .i64 x.y) ∧ wr.drew.cell? ⟨b2, o2 + k * 8, none⟩ = some (.int .i64 y.s) ∧ wr.drew.cell? ⟨b2, o2 + k * 8 + 1, none⟩ = some (.int .i64 y.n) ∧ wr.drew.cell? ⟨b2, o2 + k * 8 + 2, none⟩ = some (.int .i64 y.b) ∧ wr.drew.cell? ⟨b2, o2 + k * 8 + 3, none⟩ = some (.int .i64 y.c) ∧ wr.drew.cell? ⟨b2, o2 + k * 8 + 4, none⟩ = some (.int .i64 y.a) ∧ wr.drew.cell? ⟨b2, o2 + k * 8 + 5, none⟩ = some (.int .i64 y.r) ∧ wr.drew.cell? ⟨b2, o2 + k * 8 + 6, none⟩ = some (.int .i64 y.t) ∧ wr.drew.cell? ⟨b2, o2 + k * 8 + 7, none⟩ = some (.int .i64 y.y) := ⟨c0, c1, c2, c3, c4, c5, c6, c7, d0, d1, d2, d3, d4, d5, d6, d7⟩
        have keq := fun (w : World) => item_eq x y w
        clear hcs hds c0 c1 c2 c3 c4 c5 c6 c7 d0 d1 d2 d3 d4 d5 d6 d7
        go_wp2_with fail
        refine wp_region_held_drew (S := fun w' => w'.cell? ⟨b1, o1 + k * 8, none⟩ = some (.int .i64 x.s) ∧ w'.cell? ⟨b1, o1 + k * 8 + 1, none⟩ = some (.int .i64 x.n) ∧ w'.cell? ⟨b1, o1 + k * 8 + 2, none⟩ = some (.int .i64 x.b) ∧ w'.cell? ⟨b1, o1 + k * 8 + 3, none⟩ = some (.int .i64 x.c) ∧ w'.cell? ⟨b1, o1 + k * 8 + 4, none⟩ = some (.int .i64 x.a) ∧ w'.cell? ⟨b1, o1 + k * 8 + 5, none⟩ = some (.int .i64 x.r) ∧ w'.cell? ⟨b1, o1 + k * 8 + 6, none⟩ = some (.int .i64 x.t) ∧ w'.cell? ⟨b1, o1 + k * 8 + 7, none⟩ = some (.int .i64 x.y) ∧ w'.cell? ⟨b2, o2 + k * 8, none⟩ = some (.int .i64 y.s) ∧ w'.cell? ⟨b2, o2 + k * 8 + 1, none⟩ = some (.int .i64 y.n) ∧ w'.cell? ⟨b2, o2 + k * 8 + 2, none⟩ = some (.int .i64 y.b) ∧ w'.cell? ⟨b2, o2 + k * 8 + 3, none⟩ = some (.int .i64 y.c) ∧ w'.cell? ⟨b2, o2 + k * 8 + 4, none⟩ = some (.int .i64 y.a) ∧ w'.cell? ⟨b2, o2 + k * 8 + 5, none⟩ = some (.int .i64 y.r) ∧ w'.cell? ⟨b2, o2 + k * 8 + 6, none⟩ = some (.int .i64 y.t) ∧ w'.cell? ⟨b2, o2 + k * 8 + 7, none⟩ = some (.int .i64 y.y)) (by kernel_rfl) hS1 (fun hS0 => ?_)
        refine wpAnyH_take (i := 0) (v := ?_) rfl (by kernel_rfl) (by kernel_rfl) (by kernel_rfl) (fun _ _ _ h => h) (Or.inl ⟨by kernel_rfl, ?_⟩) (by first | assumption | trivial) ?_
        rotate_left
        · intro w hSw
          try dsimp only at hSw
          first | (go_simp; done) | (go_simp; with_reducible rfl)
        try simp only [Act.put, List.getElem_toArray, List.getElem_cons_succ, List.getElem_cons_zero, List.setIfInBounds_toArray, List.set_cons_zero, List.set_cons_succ]
        refine wpAnyH_take (i := 1) (v := ?_) rfl (by kernel_rfl) (by kernel_rfl) (by kernel_rfl) (fun _ _ _ h => h) (Or.inl ⟨by kernel_rfl, ?_⟩) (by first | assumption | trivial) ?_
        rotate_left
        · intro w hSw
          try dsimp only at hSw
          first | (go_simp; done) | (go_simp; with_reducible rfl)
        try simp only [Act.put, List.getElem_toArray, List.getElem_cons_succ, List.getElem_cons_zero, List.setIfInBounds_toArray, List.set_cons_zero, List.set_cons_succ]
        refine wpAnyH_take (i := 2) (v := ?_) rfl (by kernel_rfl) (by kernel_rfl) (by kernel_rfl) (fun _ _ _ h => h) (Or.inl ⟨by kernel_rfl, ?_⟩) (by first | assumption | trivial) ?_
        rotate_left
        · intro w hSw
          try dsimp only at hSw
          first | (go_simp; done) | (go_simp; with_reducible rfl)
        try simp only [Act.put, List.getElem_toArray, List.getElem_cons_succ, List.getElem_cons_zero, List.setIfInBounds_toArray, List.set_cons_zero, List.set_cons_succ]
        refine wpAnyH_take (i := 3) (v := ?_) rfl (by kernel_rfl) (by kernel_rfl) (by kernel_rfl) (fun _ _ _ h => h) (Or.inl ⟨by kernel_rfl, ?_⟩) (by first | assumption | trivial) ?_
        rotate_left
        · intro w hSw
          try dsimp only at hSw
          first | (go_simp; done) | (go_simp; with_reducible rfl)
        try simp only [Act.put, List.getElem_toArray, List.getElem_cons_succ, List.getElem_cons_zero, List.setIfInBounds_toArray, List.set_cons_zero, List.set_cons_succ]
        refine wpAnyH_take (i := 4) (v := ?_) rfl (by kernel_rfl) (by kernel_rfl) (by kernel_rfl) (fun _ _ _ h => h) (Or.inl ⟨by kernel_rfl, ?_⟩) (by first | assumption | trivial) ?_
        rotate_left
        · intro w hSw
          try dsimp only at hSw
          first | (go_simp; done) | (go_simp; with_reducible rfl)
        try simp only [Act.put, List.getElem_toArray, List.getElem_cons_succ, List.getElem_cons_zero, List.setIfInBounds_toArray, List.set_cons_zero, List.set_cons_succ]
        refine wpAnyH_take (i := 5) (v := ?_) rfl (by kernel_rfl) (by kernel_rfl) (by kernel_rfl) (fun _ _ _ h => h) (Or.inl ⟨by kernel_rfl, ?_⟩) (by first | assumption | trivial) ?_
        rotate_left
        · intro w hSw
          try dsimp only at hSw
          first | (go_simp; done) | (go_simp; with_reducible rfl)
        try simp only [Act.put, List.getElem_toArray, List.getElem_cons_succ, List.getElem_cons_zero, List.setIfInBounds_toArray, List.set_cons_zero, List.set_cons_succ]
        refine wpAnyH_take (i := 6) (v := ?_) rfl (by kernel_rfl) (by kernel_rfl) (by kernel_rfl) (fun _ _ _ h => h) (Or.inl ⟨by kernel_rfl, ?_⟩) (by first | assumption | trivial) ?_
        rotate_left
        · intro w hSw
          try dsimp only at hSw
          first | (go_simp; done) | (go_simp; with_reducible rfl)
        try simp only [Act.put, List.getElem_toArray, List.getElem_cons_succ, List.getElem_cons_zero, List.setIfInBounds_toArray, List.set_cons_zero, List.set_cons_succ]
        refine wpAnyH_take (i := 7) (v := ?_) rfl (by kernel_rfl) (by kernel_rfl) (by kernel_rfl) (fun _ _ _ h => h) (Or.inl ⟨by kernel_rfl, ?_⟩) (by first | assumption | trivial) ?_
        rotate_left
        · intro w hSw
          try dsimp only at hSw
          first | (go_simp; done) | (go_simp; with_reducible rfl)
        try simp only [Act.put, List.getElem_toArray, List.getElem_cons_succ, List.getElem_cons_zero, List.setIfInBounds_toArray, List.set_cons_zero, List.set_cons_succ]
        refine wpAnyH_take (i := 8) (v := ?_) rfl (by kernel_rfl) (by kernel_rfl) (by kernel_rfl) (fun _ _ _ h => h) (Or.inl ⟨by kernel_rfl, ?_⟩) (by first | assumption | trivial) ?_
        rotate_left
        · intro w hSw
          try dsimp only at hSw
          first | (go_simp; done) | (go_simp; with_reducible rfl)
        try simp only [Act.put, List.getElem_toArray, List.getElem_cons_succ, List.getElem_cons_zero, List.setIfInBounds_toArray, List.set_cons_zero, List.set_cons_succ]
        refine wpAnyH_done (by kernel_rfl) ?_ _
        clear keq
        cases hxy : itmEq x y
        · have HE : Hid (decide (xs = ys) = false) := by
            show _ = _
            apply decide_eq_false
            intro h
            subst h
            have h3 := HX.out.symm.trans HY.out
            rw [itmEq_iff.2 h3] at hxy
            cases hxy
          clear hxy
          go_wp2_with fail
          go_ret
          exact ⟨by rw [HE.out]; rfl, HB.out.1.drew⟩
        · have HN : Hid (Below w.heap.size w wr.drew ∧ ∀ j (h1 : j < xs.length) (h2 : j < ys.length), j < k + 1 → xs[j] = ys[j]) := ⟨HB.out.1.drew, fun j h1 h2 hj => by
            by_cases e : j = k
            · subst e; rw [HX.out, HY.out, itmEq_iff.1 hxy]
            · exact HB.out.2 j h1 h2 (by omega)⟩
          clear hxy
          go_wp2_with fail
          go_roundw
          case rel => exact ⟨k + 1, by omega, by go_num, HN⟩
          case measure => simp [intOf]; omega
      · have hle : (n : Int) ≤ (k : Int) := by omega
        have HE : Hid (decide (xs = ys) = true) := decide_eq_true (List.ext_getElem (by rw [HL.out]; exact HLL.out) fun j h1 h2 => HB.out.2 j h1 h2 (by have := HL.out; omega))
        go_wp2_with fail
        go_ret
        exact ⟨by rw [HE.out]; rfl, HB.out.1⟩
  · have HE : Hid (decide (xs = ys) = false) := by
      show _ = _
      apply decide_eq_false
      intro h
      exact hl (by rw [h])
    have hne : ¬ (xs.length : Int) = (ys.length : Int) := by omega
    clear hl
    generalize xs.length = n at *
    generalize ys.length = m at *
    have e1 : ((n : Int) != (m : Int)) = true := by simpa using hne
    clear hne
    go_enter Try.func18, Try.ntmps18
    go_wp2_with fail
    go_ret
    exact ⟨by rw [HE.out]; rfl, Below.refl _ _⟩
end Go.Proofs.Ytillckkohdjkbaa
