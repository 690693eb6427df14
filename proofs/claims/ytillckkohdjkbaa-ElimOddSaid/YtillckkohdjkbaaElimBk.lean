/- Books in rows; whether each two are alike. elim.Even by contract. elim.Group by contract. -/
import Derived.Test.YtillckkohdjkbaaElimLook
import Derived.Deep.Cut
import Derived.Test.YtillckkohdjkbaaBookOpenG
import Derived.Test.YtillckkohdjkbaaVecAdd
namespace Go.Proofs.Ytillckkohdjkbaa
open Go.RowKit
structure Bk where
  me : Int
  p : Option Addr
  n : Nat
  c : Nat
  q : Option Addr
  a : Nat
  b : Nat
  xs : List Itm
def Bk.cells (x : Bk) : List Value := [.int .i64 x.me, .slice x.p x.n x.c, .slice x.q x.a x.b]
def Bk.v (x : Bk) : Value := bookV x.me (.slice x.p x.n x.c) (.slice x.q x.a x.b)
def encB : Enc Bk := ⟨3, Bk.cells, by decide, fun _ => rfl, by intro x u hu; simp [Bk.cells] at hu; rcases hu with rfl | rfl | rfl <;> rfl⟩
structure Bk.In (x : Bk) (w : World) : Prop where
  row : TRow encI w (.slice x.p x.n x.c) x.xs
  len : x.xs.length = x.n
  small : x.xs.length ≤ 2000
  ok : Okx x.xs
theorem Bk.In.kept {x : Bk} {w w' : World} (h : x.In w) (hb : Below w.heap.size w w') : x.In w' := ⟨h.row.kept hb, h.len, h.small, h.ok⟩
def bk0 : Bk := ⟨0, none, 0, 0, none, 0, 0, []⟩
def pairOk (cur : Int) (b c : Bk) : Bool := decide (b.me = c.me) || (alikeB b.me c.me cur b.xs c.xs && alikeB c.me b.me cur c.xs b.xs)
def evenB (cur : Int) (bs : List Bk) : Bool := (List.range bs.length).all fun i => (List.range i).all fun j => pairOk cur (bs.getD i bk0) (bs.getD j bk0)
theorem evenB_yes {cur : Int} {bs : List Bk} (h : ∀ i (hi : i < bs.length) j (hj : j < i), pairOk cur bs[i] bs[j] = true) : evenB cur bs = true := by
  unfold evenB
  rw [List.all_eq_true]
  intro i hi
  have hi := List.mem_range.1 hi
  rw [List.all_eq_true]
  intro j hj
  have hj := List.mem_range.1 hj
  rw [List.getD_eq_getElem?_getD, List.getElem?_eq_getElem hi, List.getD_eq_getElem?_getD, List.getElem?_eq_getElem (show j < bs.length by omega)]
  exact h i hi j hj
theorem evenB_no {cur : Int} {bs : List Bk} {i j : Nat} (hi : i < bs.length) (hj : j < i) (h : pairOk cur bs[i] (bs[j]'(by omega)) = false) : evenB cur bs = false := by
  cases he : evenB cur bs
  · rfl
  · unfold evenB at he
    rw [List.all_eq_true] at he
    have h1 := he i (List.mem_range.2 hi)
    rw [List.all_eq_true] at h1
    have h2 := h1 j (List.mem_range.2 hj)
    rw [List.getD_eq_getElem?_getD, List.getElem?_eq_getElem hi, List.getD_eq_getElem?_getD, List.getElem?_eq_getElem (show j < bs.length by omega), Option.getD_some, Option.getD_some, h] at h2
    cases h2
end Go.Proofs.Ytillckkohdjkbaa
namespace Go.Proofs.Ytillckkohdjkbaa
open Go.RowKit
set_option linter.unusedSimpArgs false in
set_option maxHeartbeats 4000000 in
set_option maxRecDepth 100000 in
theorem even_any (w : World) (cur : Int) (v : Value) (bs : List Bk) (hr : TRow encB w v bs) (hin : ∀ b ∈ bs, b.In w) (hn : bs.length ≤ 100) :
    Calls Try.prog 10 #[.int .i64 cur, v] w fun e w' => e = .returned (.bool (evenB cur bs)) ∧ Below w.heap.size w w' := by
  obtain ⟨p, c, rfl⟩ := hr.shape
  have hcap := hr.cap
  have HR := Lib.hid hr
  have HIN := Lib.hid hin
  clear hr hin
  have HAL := Lib.hid (fun (x y : Bk) (hx : x ∈ bs) (hy : y ∈ bs) (W : World) (h : Below w.heap.size w W) => alike_any W x.me y.me cur x.p x.q y.p y.q x.n x.c x.a x.b y.n y.c y.a y.b x.xs y.xs ((HIN.out x hx).row.kept h) ((HIN.out y hy).row.kept h) (HIN.out x hx).len (HIN.out y hy).len (HIN.out x hx).small (HIN.out y hy).small (HIN.out x hx).ok (HIN.out y hy).ok)
  unfold bookV at HAL
  generalize hl : bs.length = n at *
  have HL := Lib.hid hl
  clear hl
  go_enter Try.func10, Try.ntmps10
  go_wp2_with fail
  go_loopw [11] (fun i wr => ∃ k : Nat, k ≤ n ∧ i = .int .i64 k ∧ Hid (Below w.heap.size w wr ∧ ∀ i' (h1 : i' < bs.length) j' (h2 : j' < i'), i' < k → pairOk cur bs[i'] (bs[j']'(by omega)) = true)) (fun i _ => n - (intOf i).toNat)
  case atStart => exact ⟨0, by omega, rfl, ⟨Below.refl _ _, fun _ _ _ _ h => by omega⟩⟩
  case round =>
    obtain ⟨k, hk, rfl, HB⟩ := hrel
    by_cases hlt : k < n
    · have hkl : k < bs.length := by rw [HL.out]; exact hlt
      have hltI : (k : Int) < (n : Int) := by omega
      have hkcI : (k : Int) ≤ (c : Int) := by omega
      have hkc : k ≤ c := by omega
      obtain ⟨b, o, rfl, hbl, hcs⟩ := (HR.out.kept HB.out.1).at_ k hkl
      obtain ⟨x, hx⟩ : ∃ x, bs[k] = x := ⟨_, rfl⟩
      rw [hx] at hcs
      have HBK := Lib.hid hx
      have HXM : Hid (x ∈ bs) := by show _ ∈ _; rw [← hx]; exact List.getElem_mem hkl
      clear hx
      have c0 : wr.cell? ⟨b, o + k * 3, none⟩ = some (.int .i64 x.me) := hcs 0 (by decide)
      have c1 : wr.cell? ⟨b, o + k * 3 + 1, none⟩ = some (.slice x.p x.n x.c) := hcs 1 (by decide)
      have c2 : wr.cell? ⟨b, o + k * 3 + 2, none⟩ = some (.slice x.q x.a x.b) := hcs 2 (by decide)
      have HX1 := Lib.hid (Blk.new wr #[.int .i64 x.me, .slice x.p x.n x.c, .slice x.q x.a x.b] 26)
      have HB1 := Lib.hid (HB.out.1.trans ((oneB wr (.cells #[.int .i64 x.me, .slice x.p x.n x.c, .slice x.q x.a x.b] 26)).mono HB.out.1.size))
      clear hcs
      go_wp2_with fail
      generalize wr.alloc (.cells #[.int .i64 x.me, .slice x.p x.n x.c, .slice x.q x.a x.b] 26) = W1 at *
      generalize wr.heap.size = gx at *
      have HREL2 : Hid (Below w.heap.size w W1 ∧ Blk W1 gx #[.int .i64 x.me, .slice x.p x.n x.c, .slice x.q x.a x.b] 26 ∧ ∀ j' (hj' : j' < k), j' < 0 → pairOk cur bs[k] (bs[j']'(by omega)) = true) := ⟨HB1.out, HX1.out, fun _ _ h => by omega⟩
      clear c0 c1 c2
      go_loopw [20] (fun i wr => ∃ j : Nat, j ≤ k ∧ i = .int .i64 j ∧ Hid (Below w.heap.size w wr ∧ Blk wr gx #[.int .i64 x.me, .slice x.p x.n x.c, .slice x.q x.a x.b] 26 ∧ ∀ j' (hj' : j' < k), j' < j → pairOk cur bs[k] (bs[j']'(by omega)) = true)) (fun i _ => k - (intOf i).toNat)
      case atStart => exact ⟨0, by omega, rfl, HREL2⟩
      case round =>
        obtain ⟨j, hj, rfl, HJ⟩ := hrel
        clear HREL2 HX1 HB1
        by_cases hjk : j < k
        · have hjI : (j : Int) < (k : Int) := by omega
          have hjl : j < bs.length := by omega
          obtain ⟨b9, o9, e9, hbl2, hds⟩ := (HR.out.kept HJ.out.1).at_ j hjl
          cases e9
          obtain ⟨y, hy⟩ : ∃ y, bs[j] = y := ⟨_, rfl⟩
          rw [hy] at hds
          have HCK := Lib.hid hy
          have HYM : Hid (y ∈ bs) := by show _ ∈ _; rw [← hy]; exact List.getElem_mem hjl
          clear hy
          have d0 : wr.cell? ⟨b, o + j * 3, none⟩ = some (.int .i64 y.me) := hds 0 (by decide)
          have d1 : wr.cell? ⟨b, o + j * 3 + 1, none⟩ = some (.slice y.p y.n y.c) := hds 1 (by decide)
          have d2 : wr.cell? ⟨b, o + j * 3 + 2, none⟩ = some (.slice y.q y.a y.b) := hds 2 (by decide)
          have HY1 := Lib.hid (Blk.new wr #[.int .i64 y.me, .slice y.p y.n y.c, .slice y.q y.a y.b] 26)
          have HX2 := Lib.hid (HJ.out.2.1.below (oneB wr (.cells #[.int .i64 y.me, .slice y.p y.n y.c, .slice y.q y.a y.b] 26)) HJ.out.2.1.lt)
          have HB2 := Lib.hid (HJ.out.1.trans ((oneB wr (.cells #[.int .i64 y.me, .slice y.p y.n y.c, .slice y.q y.a y.b] 26)).mono HJ.out.1.size))
          have HJ2 := Lib.hid HJ.out.2.2
          clear hds HJ
          by_cases hme : x.me = y.me
          · have e1 : (x.me != y.me) = false := by simpa using hme
            have HPO : Hid (pairOk cur x y = true) := by show _ = _; unfold pairOk; rw [decide_eq_true hme]; rfl
            clear hme
            go_upto_region 7 with fail
            generalize wr.alloc (.cells #[.int .i64 y.me, .slice y.p y.n y.c, .slice y.q y.a y.b] 26) = W2 at *
            generalize wr.heap.size = gy at *
            have x0 : W2.cell? ⟨gx, 0, none⟩ = some (.int .i64 x.me) := HX2.out.cell 0
            have x1 : W2.cell? ⟨gx, 1, none⟩ = some (.slice x.p x.n x.c) := HX2.out.cell 1
            have x2 : W2.cell? ⟨gx, 2, none⟩ = some (.slice x.q x.a x.b) := HX2.out.cell 2
            have y0 : W2.cell? ⟨gy, 0, none⟩ = some (.int .i64 y.me) := HY1.out.cell 0
            have y1 : W2.cell? ⟨gy, 1, none⟩ = some (.slice y.p y.n y.c) := HY1.out.cell 1
            have y2 : W2.cell? ⟨gy, 2, none⟩ = some (.slice y.q y.a y.b) := HY1.out.cell 2
            have HBX := HB2
            have HXX := HX2
            clear d0 d1 d2
            have HNX : Hid (Below w.heap.size w W2 ∧ Blk W2 gx #[.int .i64 x.me, .slice x.p x.n x.c, .slice x.q x.a x.b] 26 ∧ ∀ j' (hj' : j' < k), j' < j + 1 → pairOk cur bs[k] (bs[j']'(by omega)) = true) := ⟨HBX.out, HXX.out, fun j' h1 h2 => by
              by_cases e : j' = j
              · subst e; rw [HBK.out, HCK.out]; exact HPO.out
              · exact HJ2.out j' h1 (by omega)⟩
            go_wp2_with fail
            go_roundw
            case rel => exact ⟨j + 1, by omega, by go_num, HNX⟩
            case measure => simp [intOf]; omega
          · have e1 : (x.me != y.me) = true := by simpa using hme
            go_upto_region 7 with fail
            generalize wr.alloc (.cells #[.int .i64 y.me, .slice y.p y.n y.c, .slice y.q y.a y.b] 26) = W2 at *
            generalize wr.heap.size = gy at *
            have x0 : W2.cell? ⟨gx, 0, none⟩ = some (.int .i64 x.me) := HX2.out.cell 0
            have x1 : W2.cell? ⟨gx, 1, none⟩ = some (.slice x.p x.n x.c) := HX2.out.cell 1
            have x2 : W2.cell? ⟨gx, 2, none⟩ = some (.slice x.q x.a x.b) := HX2.out.cell 2
            have y0 : W2.cell? ⟨gy, 0, none⟩ = some (.int .i64 y.me) := HY1.out.cell 0
            have y1 : W2.cell? ⟨gy, 1, none⟩ = some (.slice y.p y.n y.c) := HY1.out.cell 1
            have y2 : W2.cell? ⟨gy, 2, none⟩ = some (.slice y.q y.a y.b) := HY1.out.cell 2
            clear d0 d1 d2
            have HA1 := Lib.hid (HAL.out x y HXM.out HYM.out W2 HB2.out)
            have HA2 := Lib.hid (fun W (h : Below w.heap.size w W) => HAL.out y x HYM.out HXM.out W h)
            obtain ⟨L1, hL1⟩ : ∃ L1, alikeB x.me y.me cur x.xs y.xs = L1 := ⟨_, rfl⟩
            obtain ⟨L2, hL2⟩ : ∃ L2, alikeB y.me x.me cur y.xs x.xs = L2 := ⟨_, rfl⟩
            have HPE : Hid (pairOk cur x y = (L1 && L2)) := by show _ = _; unfold pairOk; rw [decide_eq_false hme, hL1, hL2]; rfl
            rw [hL1] at HA1
            rw [hL2] at HA2
            clear hL1 hL2 hme
            go_wp2_with fail
            refine HA1.out.mono ?_
            rintro z w3 ⟨rfl, hb3⟩
            have HB3 := Lib.hid (HB2.out.trans (hb3.mono HB2.out.size))
            have HX3 := Lib.hid (HX2.out.below hb3 HX2.out.lt)
            have HY3 := Lib.hid (HY1.out.below hb3 HY1.out.lt)
            clear hb3 HA1 x0 x1 x2 y0 y1 y2
            have x0 : w3.cell? ⟨gx, 0, none⟩ = some (.int .i64 x.me) := HX3.out.cell 0
            have x1 : w3.cell? ⟨gx, 1, none⟩ = some (.slice x.p x.n x.c) := HX3.out.cell 1
            have x2 : w3.cell? ⟨gx, 2, none⟩ = some (.slice x.q x.a x.b) := HX3.out.cell 2
            have y0 : w3.cell? ⟨gy, 0, none⟩ = some (.int .i64 y.me) := HY3.out.cell 0
            have y1 : w3.cell? ⟨gy, 1, none⟩ = some (.slice y.p y.n y.c) := HY3.out.cell 1
            have y2 : w3.cell? ⟨gy, 2, none⟩ = some (.slice y.q y.a y.b) := HY3.out.cell 2
            cases L1
            · have HPO : Hid (pairOk cur x y = false) := HPE.out
              have HBX := HB3
              have HE : Hid (evenB cur bs = false) := evenB_no hkl hjk (by rw [HBK.out, HCK.out]; exact HPO.out)
              go_wp2_with fail
              go_ret
              exact ⟨by rw [HE.out]; rfl, HBX.out⟩
            · skip
              go_wp2_with fail
              refine (HA2.out w3 HB3.out).mono ?_
              rintro z w4 ⟨rfl, hb4⟩
              have HBX := Lib.hid (HB3.out.trans (hb4.mono HB3.out.size))
              have HXX := Lib.hid (HX3.out.below hb4 HX3.out.lt)
              clear hb4 HA2
              cases L2
              · have HPO : Hid (pairOk cur x y = false) := HPE.out
                have HE : Hid (evenB cur bs = false) := evenB_no hkl hjk (by rw [HBK.out, HCK.out]; exact HPO.out)
                go_wp2_with fail
                go_ret
                exact ⟨by rw [HE.out]; rfl, HBX.out⟩
              · have HPO : Hid (pairOk cur x y = true) := HPE.out
                have HNX : Hid (Below w.heap.size w w4 ∧ Blk w4 gx #[.int .i64 x.me, .slice x.p x.n x.c, .slice x.q x.a x.b] 26 ∧ ∀ j' (hj' : j' < k), j' < j + 1 → pairOk cur bs[k] (bs[j']'(by omega)) = true) := ⟨HBX.out, HXX.out, fun j' h1 h2 => by
                  by_cases e : j' = j
                  · subst e; rw [HBK.out, HCK.out]; exact HPO.out
                  · exact HJ2.out j' h1 (by omega)⟩
                go_wp2_with fail
                go_roundw
                case rel => exact ⟨j + 1, by omega, by go_num, HNX⟩
                case measure => simp [intOf]; omega
        · have hle2 : (k : Int) ≤ (j : Int) := by omega
          have HNX : Hid (Below w.heap.size w wr ∧ ∀ i' (h1 : i' < bs.length) j' (h2 : j' < i'), i' < k + 1 → pairOk cur bs[i'] (bs[j']'(by omega)) = true) := ⟨HJ.out.1, fun i' h1 j' h2 h3 => by
            by_cases e : i' = k
            · subst e; exact HJ.out.2.2 j' h2 (by omega)
            · exact HB.out.2 i' h1 j' h2 (by omega)⟩
          go_wp2_with fail
          go_roundw
          case rel => exact ⟨k + 1, by omega, by go_num, HNX⟩
          case measure => simp [intOf]; omega
    · have hle : (n : Int) ≤ (k : Int) := by omega
      have HE : Hid (evenB cur bs = true) := evenB_yes fun i hi j hj => HB.out.2 i hi j hj (by have := HL.out; omega)
      go_wp2_with fail
      go_ret
      exact ⟨by rw [HE.out]; rfl, HB.out.1⟩
end Go.Proofs.Ytillckkohdjkbaa
namespace Go.Proofs.Ytillckkohdjkbaa
open Go.RowKit
def openS (cur : Int) (x : Bk) : Int := ((x.xs.filter (keepI cur (-1))).map (amtI x.me)).sum
theorem open_small {cur : Int} {x : Bk} (h : Okx x.xs) (hl : x.xs.length ≤ 2000) : -2251799813685248000 ≤ openS cur x ∧ openS cur x ≤ 2251799813685248000 := by
  have key : ∀ ys : List Itm, Okx ys → -(1125899906842624 * (ys.length : Int)) ≤ (ys.map (amtI x.me)).sum ∧ (ys.map (amtI x.me)).sum ≤ 1125899906842624 * (ys.length : Int) := by
    intro ys
    induction ys with
    | nil => intro _; simp
    | cons a t ih =>
      intro hk
      have h1 := hk a (by simp)
      have h2 := ih (fun b hb => hk b (by simp [hb]))
      have h3 : amtI x.me a = a.a ∨ amtI x.me a = -a.a := by unfold amtI; split <;> simp
      simp only [List.map_cons, List.sum_cons, List.length_cons, Int.natCast_add, Int.natCast_one, Int.mul_add, Int.mul_one]
      omega
  have h1 := key (x.xs.filter (keepI cur (-1))) (fun y hy => h y (List.mem_filter.1 hy).1)
  have h2 := List.length_filter_le (keepI cur (-1)) x.xs
  have h3 : (1125899906842624 : Int) * ((x.xs.filter (keepI cur (-1))).length : Int) ≤ 1125899906842624 * 2000 := Int.mul_le_mul_of_nonneg_left (by omega) (by omega)
  unfold openS
  omega
def oneP (cur : Int) (x : Bk) : List Pos := if openS cur x = 0 then [] else [⟨x.me, cur, openS cur x⟩]
def grpL (cur : Int) (bs : List Bk) : List Pos := bs.flatMap (oneP cur)
theorem grpL_take {cur : Int} {bs : List Bk} {k : Nat} (hk : k < bs.length) : grpL cur (bs.take (k + 1)) = grpL cur (bs.take k) ++ oneP cur bs[k] := by
  unfold grpL
  rw [List.take_succ_eq_append_getElem hk, List.flatMap_append]
  simp
theorem grpL_len (cur : Int) (bs : List Bk) : (grpL cur bs).length ≤ bs.length := by
  unfold grpL
  induction bs with
  | nil => simp
  | cons x t ih =>
    rw [List.flatMap_cons, List.length_append, List.length_cons]
    have : (oneP cur x).length ≤ 1 := by unfold oneP; split <;> simp
    omega
theorem grpL_mem {cur : Int} {bs : List Bk} {q : Pos} (h : q ∈ grpL cur bs) : ∃ x ∈ bs, q = ⟨x.me, cur, openS cur x⟩ := by
  unfold grpL oneP at h
  obtain ⟨x, hx, hq⟩ := List.mem_flatMap.1 h
  split at hq
  · cases hq
  · exact ⟨x, hx, List.mem_singleton.1 hq⟩
/-- One more, of a higher number. -/
theorem grp_around {cur : Int} {bs : List Bk} {m : Int} (h : ∀ x ∈ bs, x.me < m) : Around ⟨m, cur, 0⟩ (grpL cur bs) (grpL cur bs) [] [] := by
  refine ⟨by simp, fun q hq => ?_, (fun _ h => by cases h), .inl rfl⟩
  obtain ⟨x, hx, rfl⟩ := grpL_mem hq
  rw [ordP_lt]
  left
  exact h x hx
theorem grp_addL {cur : Int} {bs : List Bk} {x : Bk} (hm : 0 ≤ x.me ∧ x.me < 8) (hc : 0 ≤ cur ∧ cur < 8) (hf : Fits (openS cur x)) : addL (grpL cur bs) (grpL cur bs) [] x.me cur (midA []) (openS cur x) = grpL cur bs ++ oneP cur x ∧ addE x.me cur (midA []) (openS cur x) = 0 := by
  have hno : ¬ OutEC x.me cur := by unfold OutEC; omega
  unfold addL addE oneP
  rw [if_neg hno, if_neg hno, show midA [] + openS cur x = openS cur x from Int.zero_add _, if_pos hf, List.append_nil]
  exact ⟨rfl, sumE_yes hf⟩
theorem grp_out {cur : Int} {x : Bk} (hc : cur < 0 ∨ 8 ≤ cur) : addE x.me cur (midA []) (openS cur x) = 1 := by
  unfold addE
  rw [if_pos (by unfold OutEC; omega)]
def GRel (w : World) (cur : Int) (bs : List Bk) (k : Nat) (p : Option Addr) (n c : Nat) (wr : World) : Prop := Blk wr w.heap.size #[.slice none 0 0] 50 ∧ Blk wr (w.heap.size + 1) #[.slice p n c] 50 ∧ OwnP wr (w.heap.size + 1 + 1) 77 (.slice p n c) (grpL cur (bs.take k)) ∧ Below w.heap.size w wr
set_option linter.unusedSimpArgs false in
set_option maxHeartbeats 4000000 in
set_option maxRecDepth 100000 in
theorem group_in (w : World) (cur : Int) (v : Value) (bs : List Bk) (hr : TRow encB w v bs) (hin : ∀ b ∈ bs, b.In w) (hn : bs.length ≤ 8) (hc : 0 ≤ cur ∧ cur < 8) (hm : ∀ b ∈ bs, 0 ≤ b.me ∧ b.me < 8) (hs : bs.Pairwise (fun x y => x.me < y.me)) :
    Calls Try.prog 11 #[.int .i64 cur, v] w fun e w' => ∃ v', e = .returned (.tuple #[vecV v', .int .i64 0]) ∧ PRow w' v' (grpL cur bs) ∧ Below w.heap.size w w' := by
  obtain ⟨p, c, rfl⟩ := hr.shape
  have HR := Lib.hid hr
  have HIN := Lib.hid hin
  have HM := Lib.hid hm
  have HS := Lib.hid hs
  have HC := Lib.hid hc
  clear hr hin hm hs hc
  have HOP := Lib.hid (fun (x : Bk) (hx : x ∈ bs) (W : World) (h : Below w.heap.size w W) => open_any W x.me x.p x.q x.n x.c x.a x.b x.xs cur (-1) (openS cur x) 0 ((HIN.out x hx).row.kept h) (HIN.out x hx).small (HIN.out x hx).ok (sumN_yes (by have := open_small (cur := cur) (HIN.out x hx).ok (HIN.out x hx).small; unfold openS at this; unfold Fits; omega)) (sumE_yes (by have := open_small (cur := cur) (HIN.out x hx).ok (HIN.out x hx).small; unfold openS at this; unfold Fits; omega)))
  unfold bookV at HOP
  generalize hl : bs.length = n at *
  have HL := Lib.hid hl
  clear hl
  go_enter Try.func11, Try.ntmps11
  go_wp2_with fail
  generalize hW1 : (w.alloc (.cells #[.slice none 0 0] 50)).alloc (.cells #[.slice none 0 0] 50) = W1
  have HREL : Hid (GRel w cur bs 0 none 0 0 W1) := by
    show GRel _ _ _ _ _ _ _ _
    rw [← hW1]
    exact ⟨(Blk.new w _ _).alloc _, Blk.new' _ _ _ (by simp), OwnP.nil_ _ _ _, (oneB w _).alloc (by simp) _⟩
  clear hW1
  go_loopw [13] (fun i wr => ∃ (k : Nat) (pz : Option Addr) (nz cz : Nat), k ≤ n ∧ i = .int .i64 k ∧ Hid (GRel w cur bs k pz nz cz wr)) (fun i _ => n - (intOf i).toNat)
  case atStart => exact ⟨0, none, 0, 0, by omega, rfl, HREL⟩
  case round =>
    obtain ⟨k, pz, nz, cz, hk, rfl, HG⟩ := hrel
    clear HREL
    obtain ⟨hb0, hb1, hop, hbw⟩ := HG.out
    by_cases hlt : k < n
    · have hkl : k < bs.length := by rw [HL.out]; exact hlt
      have hltI : (k : Int) < (n : Int) := by omega
      have HGT := Lib.hid (grpL_take (cur := cur) hkl)
      obtain ⟨b, o, rfl, hbl, hcs⟩ := (HR.out.kept hbw).at_ k hkl
      obtain ⟨x, hx⟩ : ∃ x, bs[k] = x := ⟨_, rfl⟩
      rw [hx] at hcs HGT
      have HXM : Hid (x ∈ bs) := by show _ ∈ _; rw [← hx]; exact List.getElem_mem hkl
      have HLT : Hid (∀ y ∈ bs.take k, y.me < x.me) := fun y hy => by
        obtain ⟨j, hj, rfl⟩ := List.mem_iff_getElem.1 hy
        rw [List.length_take] at hj
        rw [List.getElem_take, ← hx]
        exact List.pairwise_iff_getElem.1 HS.out j k (by have := HL.out; omega) hkl (by omega)
      have HGL : Hid ((grpL cur (bs.take k)).length ≤ 8) := by
        show _ ≤ _
        have := grpL_len cur (bs.take k)
        rw [List.length_take] at this
        omega
      clear hx
      have c0 : wr.cell? ⟨b, o + k * 3, none⟩ = some (.int .i64 x.me) := hcs 0 (by decide)
      have c1 : wr.cell? ⟨b, o + k * 3 + 1, none⟩ = some (.slice x.p x.n x.c) := hcs 1 (by decide)
      have c2 : wr.cell? ⟨b, o + k * 3 + 2, none⟩ = some (.slice x.q x.a x.b) := hcs 2 (by decide)
      have HX1 := Lib.hid (Blk.new wr #[.int .i64 x.me, .slice x.p x.n x.c, .slice x.q x.a x.b] 26)
      have HB1 := Lib.hid (hbw.trans ((oneB wr (.cells #[.int .i64 x.me, .slice x.p x.n x.c, .slice x.q x.a x.b] 26)).mono hbw.size))
      have HA0 := Lib.hid (hb0.alloc (.cells #[.int .i64 x.me, .slice x.p x.n x.c, .slice x.q x.a x.b] 26))
      have HA1 := Lib.hid (hb1.alloc (.cells #[.int .i64 x.me, .slice x.p x.n x.c, .slice x.q x.a x.b] 26))
      have HP1 := Lib.hid (hop.later (oneB wr (.cells #[.int .i64 x.me, .slice x.p x.n x.c, .slice x.q x.a x.b] 26)))
      clear hcs hb0 hb1 hop hbw HG
      go_upto_region 5 with fail
      generalize wr.alloc (.cells #[.int .i64 x.me, .slice x.p x.n x.c, .slice x.q x.a x.b] 26) = W2 at *
      generalize wr.heap.size = gx at *
      have x0 : W2.cell? ⟨gx, 0, none⟩ = some (.int .i64 x.me) := HX1.out.cell 0
      have x1 : W2.cell? ⟨gx, 1, none⟩ = some (.slice x.p x.n x.c) := HX1.out.cell 1
      have x2 : W2.cell? ⟨gx, 2, none⟩ = some (.slice x.q x.a x.b) := HX1.out.cell 2
      have HO := Lib.hid (HOP.out x HXM.out W2 HB1.out)
      clear c0 c1 c2
      go_wp2_with fail
      refine HO.out.mono ?_
      rintro y w3 ⟨rfl, hb3⟩
      have HX3 := Lib.hid (HX1.out.below hb3 HX1.out.lt)
      have HA03 := Lib.hid (HA0.out.below hb3 HA0.out.lt)
      have HA13 := Lib.hid (HA1.out.below hb3 HA1.out.lt)
      have HP3 := Lib.hid (HP1.out.later hb3)
      have HB3 := Lib.hid (HB1.out.trans (hb3.mono HB1.out.size))
      clear hb3 HO HX1 HA0 HA1 HP1 HB1 x0 x1 x2
      have a0 : w3.cell? ⟨w.heap.size + 1, 0, none⟩ = some (.slice pz nz cz) := HA13.out.cell 0
      have x0 : w3.cell? ⟨gx, 0, none⟩ = some (.int .i64 x.me) := HX3.out.cell 0
      have x1 : w3.cell? ⟨gx, 1, none⟩ = some (.slice x.p x.n x.c) := HX3.out.cell 1
      have x2 : w3.cell? ⟨gx, 2, none⟩ = some (.slice x.q x.a x.b) := HX3.out.cell 2
      have HADD := Lib.hid (vadd_any w3 _ (grpL cur (bs.take k)) _ [] [] x.me cur (openS cur x) HP3.out.row (grp_around HLT.out) (by have := HGL.out; omega) (by unfold midA Fits; decide) (by have := open_small (cur := cur) (HIN.out x HXM.out).ok (HIN.out x HXM.out).small; unfold Fits; omega))
      have HAL := Lib.hid (grp_addL (bs := bs.take k) (HM.out x HXM.out) HC.out (show Fits (openS cur x) by have := open_small (cur := cur) (HIN.out x HXM.out).ok (HIN.out x HXM.out).small; unfold Fits; omega))
      unfold AddPost vecV at HADD
      rw [HAL.out.1, HAL.out.2, ← HGT.out] at HADD
      generalize openS cur x = z at *
      go_wp2_with fail
      refine HADD.out.mono ?_
      rintro y w4 ⟨v4, rfl, ho4, hb4⟩
      obtain ⟨p4, c4, hv4⟩ := ho4.form
      generalize (grpL cur (bs.take (k + 1))).length = n4 at hv4
      subst hv4
      have hsz := HA13.out.lt
      have HA04 := Lib.hid (HA03.out.below hb4 HA03.out.lt)
      have HA14 := Lib.hid (HA13.out.below hb4 hsz)
      have HB4 := Lib.hid (HB3.out.trans (hb4.mono HB3.out.size))
      have HP4 := Lib.hid (ho4.less (show w.heap.size + 1 + 1 ≤ w3.heap.size by omega))
      clear hb4 ho4 HADD HX3 HA03 HA13 HP3 HB3 x0 x1 x2 a0 hsz
      have a0 : w4.cell? ⟨w.heap.size + 1, 0, none⟩ = some (.slice pz nz cz) := HA14.out.cell 0
      have af := HA14.out.free 0
      have HNX : Hid (GRel w cur bs (k + 1) p4 n4 c4 (w4.setCell ⟨w.heap.size + 1, 0, none⟩ (.slice p4 n4 c4))) := ⟨HA04.out.setOther (by simp) _, HA14.out.set 0 _, HP4.out.setLow (by simp) _, HB4.out.setCell (by simp) _⟩
      clear HA04 HA14 HP4 HB4
      go_wp2_with fail
      go_roundw
      case rel => exact ⟨k + 1, p4, n4, c4, by omega, by go_num, HNX⟩
      case measure => simp [intOf]; omega
    · have hle : (n : Int) ≤ (k : Int) := by omega
      have hkn : k = bs.length := by rw [HL.out]; omega
      rw [hkn, List.take_length] at hop
      have HP := Lib.hid hop
      have HB := Lib.hid hbw
      have HA0 := Lib.hid hb0
      have HA1 := Lib.hid hb1
      have a0 : wr.cell? ⟨w.heap.size + 1, 0, none⟩ = some (.slice pz nz cz) := hb1.cell 0
      have r0 : wr.cell? ⟨w.heap.size, 0, none⟩ = some (.slice none 0 0) := hb0.cell 0
      have rf := hb0.free 0
      clear hop hbw hb0 hb1 HG hkn
      go_wp2_with fail
      have HFB := Lib.hid (HB.out.setCell (p := ⟨w.heap.size, 0, none⟩) (Nat.le_refl _) (.slice pz nz cz))
      have HFP := Lib.hid (HP.out.setLow (a := ⟨w.heap.size, 0, none⟩) (by simp; omega) (.slice pz nz cz))
      have HFR := Lib.hid (HA0.out.set 0 (.slice pz nz cz))
      have q0 : (wr.setCell ⟨w.heap.size, 0, none⟩ (.slice pz nz cz)).cell? ⟨w.heap.size, 0, none⟩ = some (.slice pz nz cz) := HFR.out.cell 0
      refine bodyPost_ret (v := .tuple #[vecV (.slice pz nz cz), .int .i64 0]) (by simp [results, Try.results11, go_sem, vecV, q0]) rfl ⟨_, rfl, HFP.out.row, HFB.out⟩
set_option linter.unusedSimpArgs false in
set_option maxHeartbeats 4000000 in
set_option maxRecDepth 100000 in
theorem group_out (w : World) (cur : Int) (v : Value) (bs : List Bk) (hr : TRow encB w v bs) (hin : ∀ b ∈ bs, b.In w) (hn : 0 < bs.length) (hc : cur < 0 ∨ 8 ≤ cur) :
    Calls Try.prog 11 #[.int .i64 cur, v] w fun e w' => e = .returned (.tuple #[vecV (.slice none 0 0), .int .i64 1]) ∧ Below w.heap.size w w' := by
  obtain ⟨p, c, rfl⟩ := hr.shape
  have HR := Lib.hid hr
  have HIN := Lib.hid hin
  have HC := Lib.hid hc
  clear hr hin hc
  have HOP := Lib.hid (fun (x : Bk) (hx : x ∈ bs) (W : World) (h : Below w.heap.size w W) => open_any W x.me x.p x.q x.n x.c x.a x.b x.xs cur (-1) (openS cur x) 0 ((HIN.out x hx).row.kept h) (HIN.out x hx).small (HIN.out x hx).ok (sumN_yes (by have := open_small (cur := cur) (HIN.out x hx).ok (HIN.out x hx).small; unfold openS at this; unfold Fits; omega)) (sumE_yes (by have := open_small (cur := cur) (HIN.out x hx).ok (HIN.out x hx).small; unfold openS at this; unfold Fits; omega)))
  unfold bookV at HOP
  generalize hl : bs.length = n at *
  have HL := Lib.hid hl
  clear hl
  go_enter Try.func11, Try.ntmps11
  go_wp2_with fail
  generalize hW1 : (w.alloc (.cells #[.slice none 0 0] 50)).alloc (.cells #[.slice none 0 0] 50) = W1
  have HREL : Hid (GRel w cur bs 0 none 0 0 W1) := by
    show GRel _ _ _ _ _ _ _ _
    rw [← hW1]
    exact ⟨(Blk.new w _ _).alloc _, Blk.new' _ _ _ (by simp), OwnP.nil_ _ _ _, (oneB w _).alloc (by simp) _⟩
  clear hW1
  go_loopw [13] (fun i wr => i = .int .i64 0 ∧ Hid (GRel w cur bs 0 none 0 0 wr)) (fun _ _ => 0)
  case atStart => exact ⟨rfl, HREL⟩
  case round =>
    obtain ⟨rfl, HG⟩ := hrel
    clear HREL
    obtain ⟨hb0, hb1, hop, hbw⟩ := HG.out
    have hkl : 0 < bs.length := by rw [HL.out]; exact hn
    have hltI : (0 : Int) < (n : Int) := by omega
    obtain ⟨b, o, rfl, hbl, hcs⟩ := (HR.out.kept hbw).at_ 0 hkl
    obtain ⟨x, hx⟩ : ∃ x, bs[0] = x := ⟨_, rfl⟩
    rw [hx] at hcs
    have HXM : Hid (x ∈ bs) := by show _ ∈ _; rw [← hx]; exact List.getElem_mem hkl
    clear hx
    have c0 : wr.cell? ⟨b, o, none⟩ = some (.int .i64 x.me) := by have h9 := hcs 0 (by decide); simpa [encB, Bk.cells] using h9
    have c1 : wr.cell? ⟨b, o + 1, none⟩ = some (.slice x.p x.n x.c) := by have h9 := hcs 1 (by decide); simpa [encB, Bk.cells] using h9
    have c2 : wr.cell? ⟨b, o + 2, none⟩ = some (.slice x.q x.a x.b) := by have h9 := hcs 2 (by decide); simpa [encB, Bk.cells] using h9
    have HX1 := Lib.hid (Blk.new wr #[.int .i64 x.me, .slice x.p x.n x.c, .slice x.q x.a x.b] 26)
    have HB1 := Lib.hid (hbw.trans ((oneB wr (.cells #[.int .i64 x.me, .slice x.p x.n x.c, .slice x.q x.a x.b] 26)).mono hbw.size))
    have HA0 := Lib.hid (hb0.alloc (.cells #[.int .i64 x.me, .slice x.p x.n x.c, .slice x.q x.a x.b] 26))
    have HA1 := Lib.hid (hb1.alloc (.cells #[.int .i64 x.me, .slice x.p x.n x.c, .slice x.q x.a x.b] 26))
    clear hcs hb0 hb1 hop hbw HG
    go_upto_region 5 with fail
    generalize wr.alloc (.cells #[.int .i64 x.me, .slice x.p x.n x.c, .slice x.q x.a x.b] 26) = W2 at *
    generalize wr.heap.size = gx at *
    have x0 : W2.cell? ⟨gx, 0, none⟩ = some (.int .i64 x.me) := HX1.out.cell 0
    have x1 : W2.cell? ⟨gx, 1, none⟩ = some (.slice x.p x.n x.c) := HX1.out.cell 1
    have x2 : W2.cell? ⟨gx, 2, none⟩ = some (.slice x.q x.a x.b) := HX1.out.cell 2
    have HO := Lib.hid (HOP.out x HXM.out W2 HB1.out)
    clear c0 c1 c2
    go_wp2_with fail
    refine HO.out.mono ?_
    rintro y w3 ⟨rfl, hb3⟩
    have HX3 := Lib.hid (HX1.out.below hb3 HX1.out.lt)
    have HA03 := Lib.hid (HA0.out.below hb3 HA0.out.lt)
    have HA13 := Lib.hid (HA1.out.below hb3 HA1.out.lt)
    have HB3 := Lib.hid (HB1.out.trans (hb3.mono HB1.out.size))
    clear hb3 HO HX1 HA0 HA1 HB1 x0 x1 x2
    have a0 : w3.cell? ⟨w.heap.size + 1, 0, none⟩ = some (.slice none 0 0) := HA13.out.cell 0
    have x0 : w3.cell? ⟨gx, 0, none⟩ = some (.int .i64 x.me) := HX3.out.cell 0
    have x1 : w3.cell? ⟨gx, 1, none⟩ = some (.slice x.p x.n x.c) := HX3.out.cell 1
    have x2 : w3.cell? ⟨gx, 2, none⟩ = some (.slice x.q x.a x.b) := HX3.out.cell 2
    have HADD := Lib.hid (vadd_any w3 (.slice none 0 0) [] [] [] [] x.me cur (openS cur x) (PRow.nil_ w3) ⟨rfl, (fun _ h => by cases h), (fun _ h => by cases h), .inl rfl⟩ (by decide) (by unfold midA Fits; decide) (by have := open_small (cur := cur) (HIN.out x HXM.out).ok (HIN.out x HXM.out).small; unfold Fits; omega))
    unfold AddPost vecV at HADD
    rw [grp_out HC.out] at HADD
    generalize openS cur x = z at *
    go_wp2_with fail
    refine HADD.out.mono ?_
    rintro y w4 ⟨v4, rfl, ho4, hb4⟩
    obtain ⟨p4, c4, hv4⟩ := ho4.form
    generalize List.length _ = n4 at hv4
    subst hv4
    have hsz := HA13.out.lt
    have HA04 := Lib.hid (HA03.out.below hb4 HA03.out.lt)
    have HA14 := Lib.hid (HA13.out.below hb4 hsz)
    have HB4 := Lib.hid (HB3.out.trans (hb4.mono HB3.out.size))
    clear hb4 ho4 HADD HX3 HA03 HA13 HB3 x0 x1 x2 a0 hsz
    have a0 : w4.cell? ⟨w.heap.size + 1, 0, none⟩ = some (.slice none 0 0) := HA14.out.cell 0
    have af := HA14.out.free 0
    have HA05 := Lib.hid (HA04.out.setOther (a := ⟨w.heap.size + 1, 0, none⟩) (by simp) (.slice p4 n4 c4))
    have HB5 := Lib.hid (HB4.out.setCell (p := ⟨w.heap.size + 1, 0, none⟩) (by simp) (.slice p4 n4 c4))
    have r0 : (w4.setCell ⟨w.heap.size + 1, 0, none⟩ (.slice p4 n4 c4)).cell? ⟨w.heap.size, 0, none⟩ = some (.slice none 0 0) := HA05.out.cell 0
    have rf := HA05.out.free 0
    go_wp2_with fail
    have HFB := Lib.hid (HB5.out.setCell (p := ⟨w.heap.size, 0, none⟩) (Nat.le_refl _) (.slice none 0 0))
    have HFR := Lib.hid (HA05.out.set 0 (.slice none 0 0))
    have q0 : ((w4.setCell ⟨w.heap.size + 1, 0, none⟩ (.slice p4 n4 c4)).setCell ⟨w.heap.size, 0, none⟩ (.slice none 0 0)).cell? ⟨w.heap.size, 0, none⟩ = some (.slice none 0 0) := HFR.out.cell 0
    refine bodyPost_ret (v := .tuple #[vecV (.slice none 0 0), .int .i64 1]) (by simp [results, Try.results11, go_sem, vecV, q0]) rfl ⟨rfl, HFB.out⟩
end Go.Proofs.Ytillckkohdjkbaa
