/- slices.IndexFunc, DeleteFunc over items by contract, whatever the predicate. '==' of two items. (book.Book).agreed, Open by contract, where all items are kept. What a seller has sold to a buyer. '==' of two items. elim.sold, total, slices.Equal of items by contract. elim.total, slices.Equal of items by contract. elim.Look, alike by contract. (book.Book).agreed, Open by contract. Slices of positions: three cells each. vector.compare by contract. slices.BinarySearchFunc over positions, by contract; Vector.find. The call's own slices of three-cell structs; append; Grow and Concat of slices of positions. Vector.find, clone by contract. Vector.with by contract. money.Add by contract. Vector.Add, List by contract. Books in rows; whether each two are alike. elim.Even by contract. elim.Group by contract. A row of structs that lies whole in a block. Vector.Total by contract, over any positions. -/
import Derived.Test.YtillckkohdjkbaaQ1
import Derived.Laws.StructEq
import Derived.Deep.RegionWith
import Derived.Deep.RegionHeld3
import Derived.IntWalk
import Derived.Lib.AppendZeros
import Derived.Deep.Cut
namespace Go.Proofs.Ytillckkohdjkbaa
open Go.RowKit
/-- The closure that book.agreed hands over says p, in every world that leaves what lies below base. -/
def Says (p : Itm → Bool) (base bf : Nat) (w : World) : Prop := ∀ W, Below base w W → ∀ x : Itm, Calls Try.prog 55 #[x.v, .pointer (some ⟨bf, 0, none⟩)] W fun e w' => e = .returned (.bool (p x)) ∧ Below W.heap.size W w'
def IdxR (p : Itm → Bool) (xs : List Itm) (r : Int) : Prop := (r = -1 ∧ ∀ x ∈ xs, p x = false) ∨ ∃ i : Nat, r = i ∧ ∃ hi : i < xs.length, p xs[i] = true ∧ ∀ j (hj : j < xs.length), j < i → p xs[j] = false
set_option linter.unusedSimpArgs false in
set_option maxHeartbeats 4000000 in
set_option maxRecDepth 100000 in
theorem idx_any (w : World) (v : Value) (xs : List Itm) (p : Itm → Bool) (base bf : Nat) (hr : TRow encI w v xs) (hP : Says p base bf w) (hb : base ≤ w.heap.size) (hn : xs.length ≤ 2000) :
  Calls Try.prog 58 #[v, (.func (.func 55) #[] #[.pointer (some ⟨bf, 0, none⟩)])] w fun e w' => ∃ r, e = .returned (.int .i64 r) ∧ IdxR p xs r ∧ Below w.heap.size w w' := by
 obtain ⟨pv, c, rfl⟩ := hr.shape
 have HR := Lib.hid hr
 have HPP := Lib.hid hP
 have HBB := Lib.hid hb
 clear hr hP hb
 generalize hl : xs.length = n at *
 have HL := Lib.hid hl
 clear hl
 go_enter Try.func58, Try.ntmps58
 go_wp2_with fail
 go_loopw [5, 8] (fun _ i wr => ∃ k : Nat, k ≤ n ∧ i = .int .i64 k ∧ Hid (Below w.heap.size w wr ∧ ∀ j (hj : j < xs.length), j < k → p xs[j] = false)) (fun _ i _ => n - (intOf i).toNat)
 case atStart => exact ⟨0, by omega, rfl, ⟨Below.refl _ _, fun j hj h => by omega⟩⟩
 case round =>
  obtain ⟨k, hk, rfl, HB⟩ := hrel
  by_cases hlt : k < n
  ·have hkl : k < xs.length := by rw [HL.out]; exact hlt
   have hltI : (k : Int) < (n : Int) := by omega
   obtain ⟨b, o, rfl, hbl, hcs⟩ := (HR.out.kept HB.out.1).at_ k hkl
   obtain ⟨x, hx⟩ : ∃ x, xs[k] = x := ⟨_, rfl⟩
   have HX := Lib.hid hx
   rw [hx] at hcs
   clear hx
   have c0 : wr.cell? ⟨b, o + k * 8, none⟩ = some (.int .i64 x.s) := hcs 0 (by decide)
   have c1 : wr.cell? ⟨b, o + k * 8 + 1, none⟩ = some (.int .i64 x.n) := hcs 1 (by decide)
   have c2 : wr.cell? ⟨b, o + k * 8 + 2, none⟩ = some (.int .i64 x.b) := hcs 2 (by decide)
   have c3 : wr.cell? ⟨b, o + k * 8 + 3, none⟩ = some (.int .i64 x.c) := hcs 3 (by decide)
   have c4 : wr.cell? ⟨b, o + k * 8 + 4, none⟩ = some (.int .i64 x.a) := hcs 4 (by decide)
   have c5 : wr.cell? ⟨b, o + k * 8 + 5, none⟩ = some (.int .i64 x.r) := hcs 5 (by decide)
   have c6 : wr.cell? ⟨b, o + k * 8 + 6, none⟩ = some (.int .i64 x.t) := hcs 6 (by decide)
   have c7 : wr.cell? ⟨b, o + k * 8 + 7, none⟩ = some (.int .i64 x.y) := hcs 7 (by decide)
   have HD := Lib.hid (HPP.out wr (HB.out.1.mono HBB.out) x)
   unfold Itm.v at HD
   obtain ⟨px, hpx⟩ : ∃ px, p x = px := ⟨_, rfl⟩
   rw [hpx] at HD
   have HPX := Lib.hid hpx
   clear hcs hpx
   cases px
   ·go_wp2_with fail
    refine HD.out.mono ?_
    rintro y w1 ⟨rfl, hb⟩
    have HN : Hid (Below w.heap.size w w1 ∧ ∀ j (hj : j < xs.length), j < k + 1 → p xs[j] = false) := ⟨HB.out.1.trans (hb.mono HB.out.1.size), fun j hj h => by
     by_cases e : j = k
     ·subst e; rw [HX.out]; exact HPX.out
     ·exact HB.out.2 j hj (by omega)⟩
    clear hb c0 c1 c2 c3 c4 c5 c6 c7 HD
    go_wp2_with fail
    go_roundw
    case rel => exact ⟨k + 1, by omega, by go_num, HN⟩
    case measure => simp [intOf]; omega
   ·go_wp2_with fail
    refine HD.out.mono ?_
    rintro y w1 ⟨rfl, hb⟩
    have HN := Lib.hid (HB.out.1.trans (hb.mono HB.out.1.size))
    clear hb c0 c1 c2 c3 c4 c5 c6 c7 HD
    go_wp2_with fail
    go_ret
    exact ⟨_, rfl, .inr ⟨k, rfl, hkl, by rw [HX.out]; exact HPX.out, fun j hj h => HB.out.2 j hj h⟩, HN.out⟩
  ·have hle : (n : Int) ≤ (k : Int) := by omega
   go_wp2_with fail
   go_ret
   exact ⟨_, rfl, .inl ⟨rfl, fun x hx => by
    obtain ⟨j, hj, rfl⟩ := List.mem_iff_getElem.1 hx
    exact HB.out.2 j hj (by have := HL.out; omega)⟩, HB.out.1⟩
theorem zeroVI_run (w : World) : (zeroValue 39).run Try.prog w = .ok zeroVI w := by
 obtain ⟨i, _, hi, hz, _⟩ := eltI
 simp [zeroValue, typeInfo, hi, hz]
theorem zeroVI_one : ∀ v ∈ zeroVI.cells, v.oneCell' = true := fun v hv => encI.one ⟨0, 0, 0, 0, 0, 0, 0, 0⟩ v (by simpa [zeroVI, Value.cells, Itm.cells] using hv)
/-- Where the deleting stands: i are kept, j looked at. -/
def DRel (p : Itm → Bool) (xs : List Itm) (w : World) (base g n c i j : Nat) (wr : World) : Prop := Below base w wr ∧ ∃ ys : List Itm, OwnT encI wr base 39 (.slice (some ⟨g, 0, none⟩) n c) ys ∧ ys.take i = (xs.take j).filter (fun x => !p x) ∧ ys.drop j = xs.drop j
theorem filt_take {p : Itm → Bool} {xs : List Itm} {j : Nat} (hj : j < xs.length) : (xs.take (j + 1)).filter (fun x => !p x) = (xs.take j).filter (fun x => !p x) ++ (if p xs[j] then [] else [xs[j]]) := by
 rw [List.take_succ_eq_append_getElem hj, List.filter_append]
 congr 1
 cases h : p xs[j] <;> simp [h]
theorem drop_at {ys xs : List Itm} {j : Nat} (h : ys.drop j = xs.drop j) (hj : j < xs.length) (hy : j < ys.length) : ys[j] = xs[j] := by
 have h1 := congrArg (fun l => l[0]?) h
 simp only [List.getElem?_drop, Nat.add_zero] at h1
 rw [List.getElem?_eq_getElem hj, List.getElem?_eq_getElem hy] at h1
 exact Option.some.inj h1
theorem drop_succ {ys xs : List Itm} {j : Nat} (h : ys.drop j = xs.drop j) : ys.drop (j + 1) = xs.drop (j + 1) := by
 have h1 := congrArg (List.drop 1) h
 rwa [List.drop_drop, List.drop_drop] at h1
set_option linter.unusedSimpArgs false in
set_option maxHeartbeats 4000000 in
set_option maxRecDepth 100000 in
theorem delete_any (w : World) (v : Value) (xs : List Itm) (p : Itm → Bool) (base bf : Nat) (hr : OwnT encI w base 39 v xs) (hP : Says p base bf w) (hb : base ≤ w.heap.size) (hn : xs.length ≤ 2000) :
  Calls Try.prog 53 #[v, (.func (.func 55) #[] #[.pointer (some ⟨bf, 0, none⟩)])] w fun e w' => ∃ v', e = .returned v' ∧ OwnT encI w' base 39 v' (xs.filter (fun x => !p x)) ∧ Below base w w' := by
 have HI := Lib.hid (idx_any w v xs p base bf hr.row hP hb hn)
 obtain ⟨pv, c, rfl⟩ := hr.form
 have HR := Lib.hid hr
 have HPP := Lib.hid hP
 have HBB := Lib.hid hb
 clear hr hP hb
 generalize hl : xs.length = n at *
 have HL := Lib.hid hl
 clear hl
 go_enter Try.func53, Try.ntmps53
 go_wp2_with fail
 refine HI.out.mono ?_
 rintro y w1 ⟨r, rfl, hix, hb1⟩
 have HB1 := Lib.hid hb1
 have HR1 := Lib.hid (HR.out.later hb1)
 clear hb1 HI
 rcases hix with ⟨rfl, hall⟩ | ⟨i0, rfl, hi0, hpi, hbe⟩
 ·have HF : Hid (xs.filter (fun x => !p x) = xs) := by show _ = _; rw [List.filter_eq_self]; intro x hx; rw [hall x hx]; rfl
  clear hall
  go_wp2_with fail
  go_ret
  exact ⟨_, rfl, by rw [HF.out]; exact HR1.out, HB1.out.mono HBB.out⟩
 ·have hi0n : i0 < n := by rw [← HL.out]; exact hi0
  obtain ⟨g, cur, hpv, hgb, hgB, hnc, _⟩ := HR1.out.lies (by omega)
  subst hpv
  have HST : Hid (DRel p xs w base g n c i0 (i0 + 1) w1) := by
   refine ⟨HB1.out.mono HBB.out, xs, HR1.out, ?_, rfl⟩
   rw [filt_take hi0, hpi, if_pos rfl, List.append_nil, List.filter_eq_self.2]
   intro x hx
   obtain ⟨j, hj, rfl⟩ := List.mem_iff_getElem.1 hx
   rw [List.length_take] at hj
   rw [List.getElem_take, hbe j (by omega) (by omega)]
   rfl
  have HGB : Hid (base ≤ g) := hgb
  have hne : ((i0 : Int) == -1) = false := by simp
  clear hgb hgB hbe hpi hi0 HR HR1 HB1
  go_wp2_with fail
  go_loopw [5, 6, 7] (fun vi vj _ wr => ∃ i j : Nat, vi = .int .i64 i ∧ vj = .int .i64 j ∧ j ≤ n ∧ i < j ∧ Hid (DRel p xs w base g n c i j wr)) (fun _ vj _ _ => n - (intOf vj).toNat)
  case atStart => exact ⟨i0, i0 + 1, rfl, by go_num, by omega, by omega, HST⟩
  case round =>
   obtain ⟨i, j, rfl, rfl, hjn, hij, HK⟩ := hrel
   clear HST
   obtain ⟨hbw, ys, hown, htk, hdr⟩ := HK.out
   have hyl : ys.length = n := by obtain ⟨p', c', e1⟩ := hown.form; exact (Value.slice.inj e1).2.1.symm
   have HOW := Lib.hid hown
   have HBW := Lib.hid hbw
   have HTK := Lib.hid htk
   have HDR := Lib.hid hdr
   have HYL := Lib.hid hyl
   clear hown hbw htk hdr hyl HK
   by_cases hlt : j < n
   ·have hltI : (j : Int) < (n : Int) := by omega
    have hjx : j < xs.length := by rw [HL.out]; exact hlt
    have hjy : j < ys.length := by rw [HYL.out]; exact hlt
    obtain ⟨b, o, e1, hbl, hcs⟩ := HOW.out.row.at_ j hjy
    cases e1
    have HDX : Hid (ys[j] = xs[j]) := drop_at HDR.out hjx hjy
    rw [HDX.out] at hcs
    have HFT := Lib.hid (filt_take (p := p) hjx)
    have hinI : (i : Int) < (n : Int) := by omega
    obtain ⟨x, hx⟩ : ∃ x, xs[j] = x := ⟨_, rfl⟩
    have HX := Lib.hid hx
    rw [hx] at hcs HFT HDX
    clear hx
    have hcs : ∀ t, t < 8 → wr.cell? ⟨g, j * 8 + t, none⟩ = (Itm.cells x)[t]? := fun t ht => by have := hcs t ht; rwa [Nat.zero_add] at this
    have c0 : wr.cell? ⟨g, j * 8, none⟩ = some (.int .i64 x.s) := hcs 0 (by decide)
    have c1 : wr.cell? ⟨g, j * 8 + 1, none⟩ = some (.int .i64 x.n) := hcs 1 (by decide)
    have c2 : wr.cell? ⟨g, j * 8 + 2, none⟩ = some (.int .i64 x.b) := hcs 2 (by decide)
    have c3 : wr.cell? ⟨g, j * 8 + 3, none⟩ = some (.int .i64 x.c) := hcs 3 (by decide)
    have c4 : wr.cell? ⟨g, j * 8 + 4, none⟩ = some (.int .i64 x.a) := hcs 4 (by decide)
    have c5 : wr.cell? ⟨g, j * 8 + 5, none⟩ = some (.int .i64 x.r) := hcs 5 (by decide)
    have c6 : wr.cell? ⟨g, j * 8 + 6, none⟩ = some (.int .i64 x.t) := hcs 6 (by decide)
    have c7 : wr.cell? ⟨g, j * 8 + 7, none⟩ = some (.int .i64 x.y) := hcs 7 (by decide)
    have HBA : Hid (Below base w (wr.alloc (.cells #[.int .i64 x.s, .int .i64 x.n, .int .i64 x.b, .int .i64 x.c, .int .i64 x.a, .int .i64 x.r, .int .i64 x.t, .int .i64 x.y] 39))) := HBW.out.trans ((oneB wr _).mono (Nat.le_trans HBB.out HBW.out.size))
    have HD := Lib.hid (HPP.out _ HBA.out x)
    have HBX := Lib.hid (Blk.new wr #[.int .i64 x.s, .int .i64 x.n, .int .i64 x.b, .int .i64 x.c, .int .i64 x.a, .int .i64 x.r, .int .i64 x.t, .int .i64 x.y] 39)
    have HOA := Lib.hid (HOW.out.later (oneB wr (.cells #[.int .i64 x.s, .int .i64 x.n, .int .i64 x.b, .int .i64 x.c, .int .i64 x.a, .int .i64 x.r, .int .i64 x.t, .int .i64 x.y] 39)))
    unfold Itm.v at HD
    obtain ⟨px, hpx⟩ : ∃ px, p x = px := ⟨_, rfl⟩
    rw [hpx] at HD HFT
    clear hcs hpx
    cases px
    ·have HFS : Hid ((xs.take (j + 1)).filter (fun x => !p x) = (xs.take j).filter (fun x => !p x) ++ [x]) := HFT.out
     clear HFT
     go_wp2_with fail
     generalize wr.alloc (.cells #[.int .i64 x.s, .int .i64 x.n, .int .i64 x.b, .int .i64 x.c, .int .i64 x.a, .int .i64 x.r, .int .i64 x.t, .int .i64 x.y] 39) = W1 at *
     generalize wr.heap.size = gx at *
     refine HD.out.mono ?_
     rintro y w2 ⟨rfl, hb2⟩
     have HB2 := Lib.hid (HBA.out.trans (hb2.mono (Nat.le_trans HBB.out HBA.out.size)))
     have HX2 := kbq HBX hb2
     have HO2 := Lib.hid (HOA.out.later hb2)
     clear hb2 HD HBA HBX HOA c0 c1 c2 c3 c4 c5 c6 c7
     have d0 : w2.cell? ⟨gx, 0, none⟩ = some (.int .i64 x.s) := HX2.out.cell 0
     have d1 : w2.cell? ⟨gx, 1, none⟩ = some (.int .i64 x.n) := HX2.out.cell 1
     have d2 : w2.cell? ⟨gx, 2, none⟩ = some (.int .i64 x.b) := HX2.out.cell 2
     have d3 : w2.cell? ⟨gx, 3, none⟩ = some (.int .i64 x.c) := HX2.out.cell 3
     have d4 : w2.cell? ⟨gx, 4, none⟩ = some (.int .i64 x.a) := HX2.out.cell 4
     have d5 : w2.cell? ⟨gx, 5, none⟩ = some (.int .i64 x.r) := HX2.out.cell 5
     have d6 : w2.cell? ⟨gx, 6, none⟩ = some (.int .i64 x.t) := HX2.out.cell 6
     have d7 : w2.cell? ⟨gx, 7, none⟩ = some (.int .i64 x.y) := HX2.out.cell 7
     have HTH := Lib.hid (HO2.out.there i 8 (by show i * 8 + 8 ≤ c * 8; omega) (by omega))
     have HINF : Hid ((Try.prog.info? 39).map (·.size) = some (#[.int .i64 x.s, .int .i64 x.n, .int .i64 x.b, .int .i64 x.c, .int .i64 x.a, .int .i64 x.r, .int .i64 x.t, .int .i64 x.y] : Array Value).size) := by
      obtain ⟨ii, _, hi, _, hs, _⟩ := eltI
      show _ = _
      rw [hi]
      show some ii.size = some 8
      rw [hs]
     have HN : Hid (DRel p xs w base g n c (i + 1) (j + 1) (w2.setCells g (i * 8) (#[.int .i64 x.s, .int .i64 x.n, .int .i64 x.b, .int .i64 x.c, .int .i64 x.a, .int .i64 x.r, .int .i64 x.t, .int .i64 x.y] : Array Value).toList)) := by
      refine ⟨below_put HGB.out _ _ _ _ HB2.out, ys.set i x, HO2.out.put i (by omega) x, ?_, ?_⟩
      ·rw [HFS.out, ← HTK.out, List.take_succ_eq_append_getElem (by rw [List.length_set, HYL.out]; omega), List.getElem_set_self]
       congr 1
       rw [List.take_set]
       exact List.set_eq_of_length_le (by rw [List.length_take]; omega)
      ·rw [List.drop_set_of_lt (by omega)]
       exact drop_succ HDR.out
     clear HB2 HO2 HX2
     go_wp2_with (with_reducible refine stop_storeT 39 (.tmp 33) (.tmp 32) rfl ?_)
     refine wpList_store_mid rfl 39 (.tmp 33) (.tmp 32) rfl g (i * 8) #[.int .i64 x.s, .int .i64 x.n, .int .i64 x.b, .int .i64 x.c, .int .i64 x.a, .int .i64 x.r, .int .i64 x.t, .int .i64 x.y] rfl rfl HTH.out HINF.out (all_oneCell_toArray (encI.one x)) ?_
     clear HTH HINF d0 d1 d2 d3 d4 d5 d6 d7
     generalize World.setCells w2 g (i * 8) _ = W3 at *
     go_wp2_with fail
     go_roundw
     case rel => exact ⟨i + 1, j + 1, by go_num, by go_num, by omega, by omega, HN⟩
     case measure => simp [intOf]; omega
    ·have HFS : Hid ((xs.take (j + 1)).filter (fun x => !p x) = (xs.take j).filter (fun x => !p x)) := by
      show _ = _
      rw [HFT.out, if_pos rfl, List.append_nil]
     clear HFT
     go_wp2_with fail
     generalize wr.alloc (.cells #[.int .i64 x.s, .int .i64 x.n, .int .i64 x.b, .int .i64 x.c, .int .i64 x.a, .int .i64 x.r, .int .i64 x.t, .int .i64 x.y] 39) = W1 at *
     refine HD.out.mono ?_
     rintro y w2 ⟨rfl, hb2⟩
     have HN : Hid (DRel p xs w base g n c i (j + 1) w2) := ⟨HBA.out.trans (hb2.mono (Nat.le_trans HBB.out HBA.out.size)), ys, HOA.out.later hb2, by rw [HFS.out]; exact HTK.out, drop_succ HDR.out⟩
     clear hb2 HD HBA HBX HOA c0 c1 c2 c3 c4 c5 c6 c7
     go_wp2_with fail
     go_roundw
     case rel => exact ⟨i, j + 1, rfl, by go_num, by omega, by omega, HN⟩
     case measure => simp [intOf]; omega
   ·have hle : (n : Int) ≤ (j : Int) := by omega
    have hjeq : j = n := by omega
    have HFIN : Hid (∀ vs, OwnT encI (wr.setCells g (i * 8) vs) base 39 (.slice (some ⟨g, 0, none⟩) i c) (xs.filter (fun x => !p x)) ∧ Below base w (wr.setCells g (i * 8) vs)) := fun vs => ⟨by
     have h := HOW.out.cutAt i (by omega) (by omega) vs
     rw [HTK.out, hjeq, ← HL.out, List.take_length] at h
     exact h, below_put HGB.out _ _ _ _ HBW.out⟩
    have HTH := Lib.hid (HOW.out.there i ((n - i) * 8) (by show i * 8 + (n - i) * 8 ≤ c * 8; omega) (by omega))
    have g1 : (i : Int) ≤ (n : Int) := by omega
    have g2 : (n : Int) ≤ (c : Int) := by omega
    have g3 : ¬ c - i = 0 := by omega
    have g4 : (i : Int) ≤ (c : Int) := by omega
    clear HBW HOW HTK HDR hjeq
    go_wp2_with (with_reducible refine stop_clear (.tmp 38) 22 rfl ?_)
    refine wpList_clear_t rfl (.tmp 38) 22 rfl 39 zeroVI Try.underlying22 zeroVI_run zeroVI_one g (i * 8) _ _ ?hn rfl ?hc (fun vs => ?_)
    case hn => first | omega | (rw [HL.out]; omega)
    case hc => first | exact HTH.out | (rw [HL.out]; exact HTH.out)
    have HF2 := Lib.hid (HFIN.out vs)
    clear HFIN HTH
    generalize World.setCells wr g (i * 8) vs = W5 at *
    go_wp2_with fail
    go_ret
    exact ⟨_, rfl, HF2.out.1, HF2.out.2⟩
end Go.Proofs.Ytillckkohdjkbaa
namespace Go.Proofs.Ytillckkohdjkbaa
open Go.RowKit
def itmEq (x y : Itm) : Bool := x.s == y.s && x.n == y.n && x.b == y.b && x.c == y.c && x.a == y.a && x.r == y.r && x.t == y.t && x.y == y.y
theorem itmEq_iff {x y : Itm} : itmEq x y = true ↔ x = y := by
 unfold itmEq
 simp only [Bool.and_eq_true, beq_iff_eq]
 constructor
 ·rintro ⟨⟨⟨⟨⟨⟨⟨h1, h2⟩, h3⟩, h4⟩, h5⟩, h6⟩, h7⟩, h8⟩
  cases x; cases y
  simp only at h1 h2 h3 h4 h5 h6 h7 h8
  rw [h1, h2, h3, h4, h5, h6, h7, h8]
 ·rintro rfl
  exact ⟨⟨⟨⟨⟨⟨⟨rfl, rfl⟩, rfl⟩, rfl⟩, rfl⟩, rfl⟩, rfl⟩, rfl⟩
theorem itmEq_dec (x y : Itm) : itmEq x y = decide (x = y) := by
 rw [Bool.eq_iff_iff, itmEq_iff, decide_eq_true_eq]
theorem item_eq (x y : Itm) (w : World) : (Op.equalIn 10000 39 (.agg #[.int .i64 x.s, .int .i64 x.n, .int .i64 x.b, .int .i64 x.c, .int .i64 x.a, .int .i64 x.r, .int .i64 x.t, .int .i64 x.y]) (.agg #[.int .i64 y.s, .int .i64 y.n, .int .i64 y.b, .int .i64 y.c, .int .i64 y.a, .int .i64 y.r, .int .i64 y.t, .int .i64 y.y])).run Try.prog w = .ok (itmEq x y) w := by
 cases h0 : x.s == y.s
 ·have e : itmEq x y = false := by unfold itmEq; rw [h0]; rfl
  rw [e]
  go_simp
 cases h1 : x.n == y.n
 ·have e : itmEq x y = false := by unfold itmEq; rw [h0, h1]; rfl
  rw [e]
  go_simp
 cases h2 : x.b == y.b
 ·have e : itmEq x y = false := by unfold itmEq; rw [h0, h1, h2]; rfl
  rw [e]
  go_simp
 cases h3 : x.c == y.c
 ·have e : itmEq x y = false := by unfold itmEq; rw [h0, h1, h2, h3]; rfl
  rw [e]
  go_simp
 cases h4 : x.a == y.a
 ·have e : itmEq x y = false := by unfold itmEq; rw [h0, h1, h2, h3, h4]; rfl
  rw [e]
  go_simp
 cases h5 : x.r == y.r
 ·have e : itmEq x y = false := by unfold itmEq; rw [h0, h1, h2, h3, h4, h5]; rfl
  rw [e]
  go_simp
 cases h6 : x.t == y.t
 ·have e : itmEq x y = false := by unfold itmEq; rw [h0, h1, h2, h3, h4, h5, h6]; rfl
  rw [e]
  go_simp
 cases h7 : x.y == y.y
 ·have e : itmEq x y = false := by unfold itmEq; rw [h0, h1, h2, h3, h4, h5, h6, h7]; rfl
  rw [e]
  go_simp
 ·have e : itmEq x y = true := by unfold itmEq; rw [h0, h1, h2, h3, h4, h5, h6, h7]; rfl
  rw [e]
  go_simp
end Go.Proofs.Ytillckkohdjkbaa
namespace Go.Proofs.Ytillckkohdjkbaa
open Go.RowKit
set_option linter.unusedSimpArgs false in
set_option maxHeartbeats 4000000 in
set_option maxRecDepth 100000 in
theorem agreed_none (w : World) (me : Int) (pi po : Option Addr) (ni ci no co : Nat) (xs : List Itm) (cur oth : Int) (bc bo : Nat) (hr : TRow encI w (.slice pi ni ci) xs) (hc : w.cell? ⟨bc, 0, none⟩ = some (.int .i64 cur)) (ho : w.cell? ⟨bo, 0, none⟩ = some (.int .i64 oth)) (hn : xs.length ≤ 2000) (hall : ∀ x ∈ xs, dropI cur oth x = false) :
  Calls Try.prog 40 #[bookV me (.slice pi ni ci) (.slice po no co), (.func (.func 41) #[] #[.pointer (some ⟨bc, 0, none⟩), .pointer (some ⟨bo, 0, none⟩)])] w fun e w' => ∃ v', e = .returned v' ∧ OwnT encI w' w.heap.size 39 v' xs ∧ Below w.heap.size w w' := by
 have hmf : ∀ (fn : Fn) (first cap : Array Value) (w : World), (Instr.makeFunc fn first cap).run Try.prog w = .ok (.func fn first cap) w := fun _ _ _ _ => rfl
 have hW0 : ∀ T, Below w.heap.size w ((w.alloc (.cells #[.int .i64 me, .slice pi ni ci, .slice po no co] 26)).alloc (.cells #[(.func (.func 41) #[] #[.pointer (some ⟨bc, 0, none⟩), .pointer (some ⟨bo, 0, none⟩)])] T)) := fun T => (oneB w _).alloc (by simp) _
 have HCL := Lib.hid (fun T => cloneI_any _ (.slice pi ni ci) xs (hr.kept (hW0 T)) hn)
 have HK3 : Hid (∀ T, Kept3 ((w.alloc (.cells #[.int .i64 me, .slice pi ni ci, .slice po no co] 26)).alloc (.cells #[(.func (.func 41) #[] #[.pointer (some ⟨bc, 0, none⟩), .pointer (some ⟨bo, 0, none⟩)])] T)) (w.heap.size + 1) bc bo cur oth) := fun T => ⟨(Blk.new' _ _ _ (by simp)).cell 0, ((hW0 T).cell (p := ⟨bc, 0, none⟩) (World.block_lt_of_cell? w _ hc)).trans hc, ((hW0 T).cell (p := ⟨bo, 0, none⟩) (World.block_lt_of_cell? w _ ho)).trans ho⟩
 have HW0 := Lib.hid hW0
 have HALL := Lib.hid hall
 clear hr hc ho hall hW0
 unfold bookV
 go_enter Try.func40, Try.ntmps40
 go_wp2_with fail
 refine (HCL.out _).mono ?_
 rintro y w1 ⟨v1, rfl, ho1, hb1⟩
 have HO := Lib.hid ho1
 have HB := Lib.hid ((HW0.out _).trans (hb1.mono (HW0.out _).size))
 obtain ⟨k1, k2, k3⟩ := (HK3.out _).kept hb1
 have HD := Lib.hid (delete_none w1 v1 xs cur oth (w.heap.size + 1) bc bo ho1.row ⟨k1, k2, k3⟩ hn HALL.out)
 have HSZ := Lib.hid (HW0.out 83).size
 clear ho1 hb1 HCL HK3 HW0 HALL k1 k2 k3
 go_wp2_with fail
 refine HD.out.mono ?_
 rintro y w2 ⟨rfl, hb2⟩
 have HO2 := Lib.hid (HO.out.later hb2)
 have HB2 := ktq HB hb2
 clear hb2 HD HO
 obtain ⟨p1, c1, hv1⟩ := HO2.out.form
 generalize xs.length = n1 at hv1
 subst hv1
 go_wp2_with fail
 go_ret
 exact ⟨_, rfl, HO2.out.less (by simp <;> omega), HB2.out⟩
def amtI (me : Int) (x : Itm) : Int := if x.s = me then x.a else -x.a
theorem eltA : Elt Try.prog 34 2 .i64 8 := by
 have ht := Try.underlying34
 have h : (Try.prog.info? 2).map (fun i => (i.zero, i.size, i.bytes)) = some (some (.int .i64 0), 1, 8) := by kernel_rfl
 cases hi : Try.prog.info? 2 with
 | none => rw [hi] at h; cases h
 | some i =>
  rw [hi] at h
  simp only [Option.map_some, Option.some.injEq, Prod.mk.injEq] at h
  exact ⟨i, ht, hi, h.1, h.2.1, h.2.2⟩
def ORel (W2 : World) (me : Int) (xs : List Itm) (k : Nat) (v : Value) (wr : World) : Prop := Own .i64 wr W2.heap.size 2 v ((xs.take k).map (amtI me)) ∧ Below W2.heap.size W2 wr
set_option linter.unusedSimpArgs false in
set_option maxHeartbeats 4000000 in
set_option maxRecDepth 100000 in
theorem open_none (w : World) (me : Int) (pi po : Option Addr) (ni ci no co : Nat) (xs : List Itm) (cur oth S E : Int) (hr : TRow encI w (.slice pi ni ci) xs) (hn : xs.length ≤ 2000) (hall : ∀ x ∈ xs, dropI cur oth x = false) (ha : ∀ x ∈ xs, 1 ≤ x.a ∧ x.a ≤ 1125899906842624) (hS : sumN (xs.map (amtI me)).sum = S) (hE : sumE (xs.map (amtI me)).sum = E) :
  Calls Try.prog 26 #[bookV me (.slice pi ni ci) (.slice po no co), .int .i64 cur, .int .i64 oth] w fun e w' => e = .returned (.tuple #[.int .i64 S, .int .i64 E]) ∧ Below w.heap.size w w' := by
 have hmf : ∀ (fn : Fn) (first cap : Array Value) (w : World), (Instr.makeFunc fn first cap).run Try.prog w = .ok (.func fn first cap) w := fun _ _ _ _ => rfl
 have H64 : Hid (All64 (xs.map (amtI me))) := fun z hz => by
  obtain ⟨x, hx, rfl⟩ := List.mem_map.1 hz
  have := ha x hx
  unfold amtI
  split <;> constructor <;> omega
 have HSU : Hid (∀ W v, Row .i64 W v (xs.map (amtI me)) → Calls Try.prog 28 #[v] W (SumTo (xs.map (amtI me)).sum W)) := fun W v h => sum_any v _ W (by rw [List.length_map]; omega) H64.out h
 have HA := Lib.hid ha
 have HS := Lib.hid hS
 have HE := Lib.hid hE
 have HAG := Lib.hid (fun (W : World) (bc bo : Nat) (hb : Below w.heap.size w W) (hc : W.cell? ⟨bc, 0, none⟩ = some (.int .i64 cur)) (ho : W.cell? ⟨bo, 0, none⟩ = some (.int .i64 oth)) => agreed_none W me pi po ni ci no co xs cur oth bc bo (hr.kept hb) hc ho hn hall)
 clear hr hall ha hS hE H64
 generalize hl : xs.length = n at *
 have HL := Lib.hid hl
 clear hl
 unfold bookV at *
 go_enter Try.func26, Try.ntmps26
 go_wp2_with fail
 generalize hW1 : ((w.alloc (.cells #[.int .i64 me, .slice pi ni ci, .slice po no co] 26)).alloc (.cells #[.int .i64 cur] 3)).alloc (.cells #[.int .i64 oth] 3) = W1
 have HB1 : Hid (Below w.heap.size w W1) := by show Below _ _ _; rw [← hW1]; exact ((oneB w _).alloc (by simp) _).alloc (by simp <;> omega) _
 have HK1 : Hid (Blk W1 w.heap.size #[.int .i64 me, .slice pi ni ci, .slice po no co] 26) := by show Blk _ _ _ _; rw [← hW1]; exact ((Blk.new w _ _).alloc _).alloc _
 have HC1 : Hid (Blk W1 (w.heap.size + 1) #[.int .i64 cur] 3) := by show Blk _ _ _ _; rw [← hW1]; exact (Blk.new' _ _ _ (by simp)).alloc _
 have HO1 : Hid (Blk W1 (w.heap.size + 1 + 1) #[.int .i64 oth] 3) := by show Blk _ _ _ _; rw [← hW1]; exact Blk.new' _ _ _ (by simp)
 clear hW1
 refine (HAG.out W1 _ _ HB1.out (HC1.out.cell 0) (HO1.out.cell 0)).mono ?_
 rintro y W2 ⟨v1, rfl, ho1, hb1⟩
 obtain ⟨p1, c1, hv1⟩ := ho1.form
 rw [HL.out] at hv1
 subst hv1
 have HR := Lib.hid ho1.row
 have HB2 := ktq HB1 hb1
 have HK2 := kbq HK1 hb1
 clear ho1 hb1 HAG HK1 HC1 HO1 HB1
 have HREL : Hid (ORel W2 me xs 0 (.slice none 0 0) W2) := ⟨Own.nil_ _ _ _ _, Below.refl _ _⟩
 go_wp2_with fail
 go_loopw [9, 17] (fun v i wr => ∃ k : Nat, k ≤ n ∧ i = .int .i64 k ∧ Hid (ORel W2 me xs k v wr)) (fun _ i _ => n - (intOf i).toNat)
 case atStart => exact ⟨0, by omega, rfl, HREL⟩
 case round =>
  obtain ⟨k, hk, rfl, HK⟩ := hrel
  clear HREL
  by_cases hlt : k < n
  ·have hkl : k < xs.length := by rw [HL.out]; exact hlt
   have hltI : (k : Int) < (n : Int) := by omega
   have HTK : Hid (xs.take (k + 1) = xs.take k ++ [xs[k]]) := List.take_succ_eq_append_getElem hkl
   obtain ⟨b, o, rfl, hbl, hcs⟩ := (HR.out.kept HK.out.2).at_ k hkl
   have hax := HA.out _ (List.getElem_mem hkl)
   generalize xs[k] = x at *
   have c0 : wr.cell? ⟨b, o + k * 8, none⟩ = some (.int .i64 x.s) := hcs 0 (by decide)
   have c1 : wr.cell? ⟨b, o + k * 8 + 1, none⟩ = some (.int .i64 x.n) := hcs 1 (by decide)
   have c2 : wr.cell? ⟨b, o + k * 8 + 2, none⟩ = some (.int .i64 x.b) := hcs 2 (by decide)
   have c3 : wr.cell? ⟨b, o + k * 8 + 3, none⟩ = some (.int .i64 x.c) := hcs 3 (by decide)
   have c4 : wr.cell? ⟨b, o + k * 8 + 4, none⟩ = some (.int .i64 x.a) := hcs 4 (by decide)
   have c5 : wr.cell? ⟨b, o + k * 8 + 5, none⟩ = some (.int .i64 x.r) := hcs 5 (by decide)
   have c6 : wr.cell? ⟨b, o + k * 8 + 6, none⟩ = some (.int .i64 x.t) := hcs 6 (by decide)
   have c7 : wr.cell? ⟨b, o + k * 8 + 7, none⟩ = some (.int .i64 x.y) := hcs 7 (by decide)
   have b0 : wr.cell? ⟨w.heap.size, 0, none⟩ = some (.int .i64 me) := (HK2.out.below HK.out.2 HK2.out.lt).cell 0
   have HSUC : Hid ((xs.take (k + 1)).map (amtI me) = (xs.take k).map (amtI me) ++ [amtI me x]) := by
    show _ = _
    rw [HTK.out, List.map_append]; rfl
   have HZL : Hid (((xs.take k).map (amtI me)).length ≤ 2000) := by show _ ≤ _; rw [List.length_map, List.length_take]; omega
   obtain ⟨ho1, hw1⟩ := HK.out
   obtain ⟨p2, c2, hv2⟩ := ho1.form
   generalize hz : (xs.take k).map (amtI me) = zs at *
   generalize hm : zs.length = m at *
   subst hv2
   have hm2 : m ≤ 2000 := HZL.out
   have HM := Lib.hid hm
   have HO1 := Lib.hid (ho1.alloc (.cells #[.int .i64 x.s, .int .i64 x.n, .int .i64 x.b, .int .i64 x.c, .int .i64 x.a, .int .i64 x.r, .int .i64 x.t, .int .i64 x.y] 39))
   have HBR := Lib.hid hw1
   have HSZ : Hid (W2.heap.size ≤ wr.heap.size) := hw1.size
   clear ho1 hw1 HK hz hm HTK hcs
   have b0' : (wr.alloc (.cells #[.int .i64 x.s, .int .i64 x.n, .int .i64 x.b, .int .i64 x.c, .int .i64 x.a, .int .i64 x.r, .int .i64 x.t, .int .i64 x.y] 39)).cell? ⟨w.heap.size, 0, none⟩ = some (.int .i64 me) := ((oneB wr _).cell (p := ⟨w.heap.size, 0, none⟩) (World.block_lt_of_cell? wr _ b0)).trans b0
   by_cases hs : x.s = me
   ·have e1 : (x.s == me) = true := by simpa using hs
    have HAM : Hid (amtI me x = x.a) := if_pos hs
    rw [HAM.out] at HSUC
    clear hs
    go_wp2_with (at_builtin; with_reducible refine stop_appendI (.tmp 27) (.tmp 30) 34 rfl ?_)
    refine wpList_append_row rfl (.tmp 27) (.tmp 30) 34 rfl 2 .i64 8 W2.heap.size eltA (.slice p2 m c2) (.slice (some ⟨wr.heap.size + 1, 0, none⟩) 1 1) zs [x.a] rfl rfl (HO1.out.alloc (.cells #[.int .i64 (x.a)] 2)) ⟨some ⟨wr.heap.size + 1, 0, none⟩, 1, rfl, Nat.le_refl _, .inr ⟨wr.heap.size + 1, 0, rfl, fun i hi => ?_⟩⟩ (by have := HM.out; simp; omega) (by have := HM.out; simp; omega) (by have := HSZ.out; simp at this ⊢; omega) (zs ++ [x.a]) (m + 1) rfl (by rw [List.length_append, HM.out]; rfl) ?_
    ·obtain rfl : i = 0 := by simp at hi; omega
     exact (Blk.new' (wr.alloc (.cells #[.int .i64 x.s, .int .i64 x.n, .int .i64 x.b, .int .i64 x.c, .int .i64 x.a, .int .i64 x.r, .int .i64 x.t, .int .i64 x.y] 39)) #[.int .i64 (x.a)] 2 (b := wr.heap.size + 1) (by simp)).cell 0
    intro p3 c3 w3 ho3 hb3
    have HNX : Hid (ORel W2 me xs (k + 1) (.slice p3 (m + 1) c3) w3) := ⟨by rw [HSUC.out]; exact ho3, HBR.out.trans ((((Below.refl _ wr).alloc HSZ.out _).alloc (by have := HSZ.out; simp; omega) _).trans hb3)⟩
    clear ho3 hb3
    go_wp2_with fail
    go_roundw
    case rel => exact ⟨k + 1, by omega, by go_num, HNX⟩
    case measure => simp [intOf]; omega
   ·have e1 : (x.s == me) = false := by simpa using hs
    have HAM : Hid (amtI me x = -x.a) := if_neg hs
    rw [HAM.out] at HSUC
    clear hs
    go_wp2_with (at_builtin; with_reducible refine stop_appendI (.tmp 32) (.tmp 36) 34 rfl ?_)
    refine wpList_append_row rfl (.tmp 32) (.tmp 36) 34 rfl 2 .i64 8 W2.heap.size eltA (.slice p2 m c2) (.slice (some ⟨wr.heap.size + 1, 0, none⟩) 1 1) zs [-x.a] rfl rfl (HO1.out.alloc (.cells #[.int .i64 (-x.a)] 2)) ⟨some ⟨wr.heap.size + 1, 0, none⟩, 1, rfl, Nat.le_refl _, .inr ⟨wr.heap.size + 1, 0, rfl, fun i hi => ?_⟩⟩ (by have := HM.out; simp; omega) (by have := HM.out; simp; omega) (by have := HSZ.out; simp at this ⊢; omega) (zs ++ [-x.a]) (m + 1) rfl (by rw [List.length_append, HM.out]; rfl) ?_
    ·obtain rfl : i = 0 := by simp at hi; omega
     exact (Blk.new' (wr.alloc (.cells #[.int .i64 x.s, .int .i64 x.n, .int .i64 x.b, .int .i64 x.c, .int .i64 x.a, .int .i64 x.r, .int .i64 x.t, .int .i64 x.y] 39)) #[.int .i64 (-x.a)] 2 (b := wr.heap.size + 1) (by simp)).cell 0
    intro p3 c3 w3 ho3 hb3
    have HNX : Hid (ORel W2 me xs (k + 1) (.slice p3 (m + 1) c3) w3) := ⟨by rw [HSUC.out]; exact ho3, HBR.out.trans ((((Below.refl _ wr).alloc HSZ.out _).alloc (by have := HSZ.out; simp; omega) _).trans hb3)⟩
    clear ho3 hb3
    go_wp2_with fail
    go_roundw
    case rel => exact ⟨k + 1, by omega, by go_num, HNX⟩
    case measure => simp [intOf]; omega
  ·have hle : (n : Int) ≤ (k : Int) := by omega
   have hkn : k = xs.length := by rw [HL.out]; omega
   have hK := HK.out
   rw [hkn] at hK
   unfold ORel at hK
   rw [List.take_length] at hK
   have HSM := Lib.hid (HSU.out _ _ hK.1.row)
   have HW := Lib.hid (HB2.out.trans (hK.2.mono HB2.out.size))
   clear HK hK hkn
   go_wp2_with fail
   refine HSM.out.mono ?_
   rintro y w3 ⟨rfl, rfl⟩
   rw [HS.out, HE.out]
   go_wp2_with fail
   go_ret2
   exact ⟨rfl, HW.out⟩
end Go.Proofs.Ytillckkohdjkbaa
namespace Go.Proofs.Ytillckkohdjkbaa
open Go.RowKit
def soldB (s b c : Int) (x : Itm) : Bool := x.t == 3 && x.c == c && x.s == s && x.b == b
def unC (x : Itm) : Itm := { x with y := 0 }
def soldL (s b c : Int) (xs : List Itm) : List Itm := (xs.filter (soldB s b c)).map unC
def amtS (xs : List Itm) : Int := (xs.map (·.a)).sum
def Okx (xs : List Itm) : Prop := ∀ x ∈ xs, 1 ≤ x.a ∧ x.a ≤ 1125899906842624
theorem soldL_len (s b c : Int) (xs : List Itm) : (soldL s b c xs).length ≤ xs.length := by
 unfold soldL
 rw [List.length_map]
 exact List.length_filter_le _ _
theorem soldL_ok {s b c : Int} {xs : List Itm} (h : Okx xs) : Okx (soldL s b c xs) := by
 intro x hx
 unfold soldL at hx
 obtain ⟨y, hy, rfl⟩ := List.mem_map.1 hx
 exact h y (List.mem_filter.1 hy).1
theorem soldL_take {s b c : Int} {xs : List Itm} {k : Nat} (hk : k < xs.length) : soldL s b c (xs.take (k + 1)) = soldL s b c (xs.take k) ++ (if soldB s b c xs[k] then [unC xs[k]] else []) := by
 unfold soldL
 rw [List.take_succ_eq_append_getElem hk, List.filter_append, List.map_append]
 congr 1
 cases h : soldB s b c xs[k] <;> simp [h]
theorem amts_small {xs : List Itm} (h : Okx xs) (hl : xs.length ≤ 2000) : 0 ≤ amtS xs ∧ amtS xs ≤ 1125899906842624 * 2000 := by
 have : 0 ≤ amtS xs ∧ amtS xs ≤ 1125899906842624 * (xs.length : Int) := by
  unfold amtS
  induction xs with
  | nil => simp
  | cons a t ih =>
   have h1 := h a (by simp)
   have h2 := ih (fun b hb => h b (by simp [hb])) (by simp at hl; omega)
   simp only [List.map_cons, List.sum_cons, List.length_cons, Int.natCast_add, Int.natCast_one, Int.mul_add, Int.mul_one]
   omega
 have h3 : (1125899906842624 : Int) * (xs.length : Int) ≤ 1125899906842624 * 2000 := Int.mul_le_mul_of_nonneg_left (by omega) (by omega)
 omega
end Go.Proofs.Ytillckkohdjkbaa
namespace Go.Proofs.Ytillckkohdjkbaa
open Go.RowKit
end Go.Proofs.Ytillckkohdjkbaa
namespace Go.Proofs.Ytillckkohdjkbaa
open Go.RowKit
set_option linter.unusedSimpArgs false in
set_option maxHeartbeats 4000000 in
set_option maxRecDepth 100000 in
theorem sold_any (w : World) (me : Int) (pi : Option Addr) (ni ci : Nat) (po : Option Addr) (no co : Nat) (s b c : Int) (xs : List Itm) (hr : TRow encI w (.slice pi ni ci) xs) (hl : xs.length = ni) (hn : xs.length ≤ 2000) :
  Calls Try.prog 16 #[bookV me (.slice pi ni ci) (.slice po no co), .int .i64 s, .int .i64 b, .int .i64 c] w fun e w' => ∃ v', e = .returned v' ∧ OwnT encI w' w.heap.size 39 v' (soldL s b c xs) ∧ Below w.heap.size w w' := by
 have HR := Lib.hid hr
 have HL := Lib.hid hl
 have hn2 : ni ≤ 2000 := by omega
 clear hr hl hn
 have HB0 := Lib.hid (oneB w (.cells #[.int .i64 me, .slice pi ni ci, .slice po no co] 26))
 have HX0 := Lib.hid (Blk.new w #[.int .i64 me, .slice pi ni ci, .slice po no co] 26)
 unfold bookV
 go_enter Try.func16, Try.ntmps16
 go_wp2_with fail
 generalize w.alloc (.cells #[.int .i64 me, .slice pi ni ci, .slice po no co] 26) = W0 at *
 have HREL : Hid (OwnT encI W0 w.heap.size 39 (.slice none 0 0) (soldL s b c (xs.take 0)) ∧ Below w.heap.size w W0) := ⟨OwnT.nil_ _ _ _ _, HB0.out⟩
 go_loopw [9, 15] (fun v i wr => ∃ k : Nat, k ≤ ni ∧ i = .int .i64 k ∧ Hid (OwnT encI wr w.heap.size 39 v (soldL s b c (xs.take k)) ∧ Below w.heap.size w wr)) (fun _ i _ => ni - (intOf i).toNat)
 case atStart => exact ⟨0, by omega, rfl, HREL⟩
 case round =>
  obtain ⟨k, hk, rfl, HJ⟩ := hrel
  clear HREL
  by_cases hlt : k < ni
  ·have hkl : k < xs.length := by rw [HL.out]; exact hlt
   have hltI : (k : Int) < (ni : Int) := by omega
   have HFS := Lib.hid (soldL_take (s := s) (b := b) (c := c) hkl)
   obtain ⟨b2, o2, rfl, hb2l, hcs⟩ := (HR.out.kept HJ.out.2).at_ k hkl
   generalize xs[k] = x at *
   have c0 : wr.cell? ⟨b2, o2 + k * 8, none⟩ = some (.int .i64 x.s) := hcs 0 (by decide)
   have c1 : wr.cell? ⟨b2, o2 + k * 8 + 1, none⟩ = some (.int .i64 x.n) := hcs 1 (by decide)
   have c2 : wr.cell? ⟨b2, o2 + k * 8 + 2, none⟩ = some (.int .i64 x.b) := hcs 2 (by decide)
   have c3 : wr.cell? ⟨b2, o2 + k * 8 + 3, none⟩ = some (.int .i64 x.c) := hcs 3 (by decide)
   have c4 : wr.cell? ⟨b2, o2 + k * 8 + 4, none⟩ = some (.int .i64 x.a) := hcs 4 (by decide)
   have c5 : wr.cell? ⟨b2, o2 + k * 8 + 5, none⟩ = some (.int .i64 x.r) := hcs 5 (by decide)
   have c6 : wr.cell? ⟨b2, o2 + k * 8 + 6, none⟩ = some (.int .i64 x.t) := hcs 6 (by decide)
   have c7 : wr.cell? ⟨b2, o2 + k * 8 + 7, none⟩ = some (.int .i64 x.y) := hcs 7 (by decide)
   obtain ⟨ho1, hw1⟩ := HJ.out
   obtain ⟨pz, cz, hvz⟩ := ho1.form
   have HZL : Hid ((soldL s b c (xs.take k)).length ≤ 2000) := by
    show _ ≤ _
    have h2 := soldL_len s b c (xs.take k)
    rw [List.length_take] at h2
    omega
   generalize hz : soldL s b c (xs.take k) = zs at *
   generalize hm : zs.length = m at *
   subst hvz
   have HMZ := Lib.hid hm
   have HO := Lib.hid (ho1.later (oneB wr (.cells #[.int .i64 x.s, .int .i64 x.n, .int .i64 x.b, .int .i64 x.c, .int .i64 x.a, .int .i64 x.r, .int .i64 x.t, .int .i64 x.y] 39)))
   have HU := Lib.hid (ho1.later (oneB wr (.cells #[.int .i64 x.s, .int .i64 x.n, .int .i64 x.b, .int .i64 x.c, .int .i64 x.a, .int .i64 x.r, .int .i64 x.t, .int .i64 0] 39)))
   have HWU := Lib.hid (hw1.trans ((oneB wr (.cells #[.int .i64 x.s, .int .i64 x.n, .int .i64 x.b, .int .i64 x.c, .int .i64 x.a, .int .i64 x.r, .int .i64 x.t, .int .i64 0] 39)).mono hw1.size))
   have HW := Lib.hid (hw1.trans ((oneB wr (.cells #[.int .i64 x.s, .int .i64 x.n, .int .i64 x.b, .int .i64 x.c, .int .i64 x.a, .int .i64 x.r, .int .i64 x.t, .int .i64 x.y] 39)).mono hw1.size))
   have HZZ := Lib.hid hz
   have hm7 : m ≤ 2000 := HZL.out
   clear ho1 hw1 HJ hcs hz hm
   by_cases ht : x.t = 3
   ·by_cases hc : x.c = c
    ·by_cases hs : x.s = s
     ·by_cases hb : x.b = b
      ·have HSB : Hid (soldB s b c x = true) := by show _ = _; unfold soldB; simp [ht, hc, hs, hb]
       have e1 : (x.t == 3) = true := by simpa using ht
       have e2 : (x.c == c) = true := by simpa using hc
       have e3 : (x.s == s) = true := by simpa using hs
       have e4 : (x.b == b) = true := by simpa using hb
       clear ht hc hs hb
       have HFY : Hid (soldL s b c (xs.take (k + 1)) = zs ++ [unC x]) := by show _ = _; rw [HFS.out, HSB.out, if_pos rfl]
       clear HFS HSB
       go_wp2_with (at_builtin; with_reducible refine stop_appendI (.tmp 42) (.tmp 44) 22 rfl ?_)
       refine wpList_append_t rfl (.tmp 42) (.tmp 44) 22 rfl 39 zeroVI 64 w.heap.size eltI rfl (by decide) (.slice pz m cz) (.slice (some ⟨wr.heap.size + 1, 0, none⟩) 1 1) zs [unC x] rfl rfl (HU.out.later (oneB _ (.cells #[.int .i64 x.s, .int .i64 x.n, .int .i64 x.b, .int .i64 x.c, .int .i64 x.a, .int .i64 x.r, .int .i64 x.t, .int .i64 0] 39))) (TRow.one_ encI (unC x) (Blk.new' (wr.alloc (.cells #[.int .i64 x.s, .int .i64 x.n, .int .i64 x.b, .int .i64 x.c, .int .i64 x.a, .int .i64 x.r, .int .i64 x.t, .int .i64 0] 39)) #[.int .i64 x.s, .int .i64 x.n, .int .i64 x.b, .int .i64 x.c, .int .i64 x.a, .int .i64 x.r, .int .i64 x.t, .int .i64 0] 39 (b := wr.heap.size + 1) (by simp)) rfl (Nat.le_refl _)) (by have := HMZ.out; simp; omega) (by have := HWU.out.size; simp at this ⊢; omega) (zs ++ [unC x]) (m + 1) rfl (by rw [List.length_append, HMZ.out]; rfl) ?_
       intro p9 c9 w9 ho9 _ hb9
       have HNX : Hid (OwnT encI w9 w.heap.size 39 (.slice p9 (m + 1) c9) (soldL s b c (xs.take (k + 1))) ∧ Below w.heap.size w w9) := ⟨by rw [HFY.out]; exact ho9, HWU.out.trans (((Below.refl _ _).alloc HWU.out.size _).trans hb9)⟩
       clear ho9 hb9
       go_wp2_with fail
       go_roundw
       case rel => exact ⟨k + 1, by omega, by go_num, HNX⟩
       case measure => simp [intOf]; omega
      ·have HSB : Hid (soldB s b c x = false) := by show _ = _; unfold soldB; simp [hb]
       have e1 : (x.t == 3) = true := by simpa using ht
       have e2 : (x.c == c) = true := by simpa using hc
       have e3 : (x.s == s) = true := by simpa using hs
       have e4 : (x.b == b) = false := by simpa using hb
       clear ht hc hs hb
       have HNX : Hid (OwnT encI (wr.alloc (.cells #[.int .i64 x.s, .int .i64 x.n, .int .i64 x.b, .int .i64 x.c, .int .i64 x.a, .int .i64 x.r, .int .i64 x.t, .int .i64 x.y] 39)) w.heap.size 39 (.slice pz m cz) (soldL s b c (xs.take (k + 1))) ∧ Below w.heap.size w (wr.alloc (.cells #[.int .i64 x.s, .int .i64 x.n, .int .i64 x.b, .int .i64 x.c, .int .i64 x.a, .int .i64 x.r, .int .i64 x.t, .int .i64 x.y] 39))) := ⟨by rw [HFS.out, HSB.out, if_neg (by decide), List.append_nil]; exact HO.out, HW.out⟩
       clear HFS HSB
       go_wp2_with fail
       go_roundw
       case rel => exact ⟨k + 1, by omega, by go_num, HNX⟩
       case measure => simp [intOf]; omega
     ·have HSB : Hid (soldB s b c x = false) := by show _ = _; unfold soldB; simp [hs]
      have e1 : (x.t == 3) = true := by simpa using ht
      have e2 : (x.c == c) = true := by simpa using hc
      have e3 : (x.s == s) = false := by simpa using hs
      clear ht hc hs
      have HNX : Hid (OwnT encI (wr.alloc (.cells #[.int .i64 x.s, .int .i64 x.n, .int .i64 x.b, .int .i64 x.c, .int .i64 x.a, .int .i64 x.r, .int .i64 x.t, .int .i64 x.y] 39)) w.heap.size 39 (.slice pz m cz) (soldL s b c (xs.take (k + 1))) ∧ Below w.heap.size w (wr.alloc (.cells #[.int .i64 x.s, .int .i64 x.n, .int .i64 x.b, .int .i64 x.c, .int .i64 x.a, .int .i64 x.r, .int .i64 x.t, .int .i64 x.y] 39))) := ⟨by rw [HFS.out, HSB.out, if_neg (by decide), List.append_nil]; exact HO.out, HW.out⟩
      clear HFS HSB
      go_wp2_with fail
      go_roundw
      case rel => exact ⟨k + 1, by omega, by go_num, HNX⟩
      case measure => simp [intOf]; omega
    ·have HSB : Hid (soldB s b c x = false) := by show _ = _; unfold soldB; simp [hc]
     have e1 : (x.t == 3) = true := by simpa using ht
     have e2 : (x.c == c) = false := by simpa using hc
     clear ht hc
     have HNX : Hid (OwnT encI (wr.alloc (.cells #[.int .i64 x.s, .int .i64 x.n, .int .i64 x.b, .int .i64 x.c, .int .i64 x.a, .int .i64 x.r, .int .i64 x.t, .int .i64 x.y] 39)) w.heap.size 39 (.slice pz m cz) (soldL s b c (xs.take (k + 1))) ∧ Below w.heap.size w (wr.alloc (.cells #[.int .i64 x.s, .int .i64 x.n, .int .i64 x.b, .int .i64 x.c, .int .i64 x.a, .int .i64 x.r, .int .i64 x.t, .int .i64 x.y] 39))) := ⟨by rw [HFS.out, HSB.out, if_neg (by decide), List.append_nil]; exact HO.out, HW.out⟩
     clear HFS HSB
     go_wp2_with fail
     go_roundw
     case rel => exact ⟨k + 1, by omega, by go_num, HNX⟩
     case measure => simp [intOf]; omega
   ·have HSB : Hid (soldB s b c x = false) := by show _ = _; unfold soldB; simp [ht]
    have e1 : (x.t == 3) = false := by simpa using ht
    clear ht
    have HNX : Hid (OwnT encI (wr.alloc (.cells #[.int .i64 x.s, .int .i64 x.n, .int .i64 x.b, .int .i64 x.c, .int .i64 x.a, .int .i64 x.r, .int .i64 x.t, .int .i64 x.y] 39)) w.heap.size 39 (.slice pz m cz) (soldL s b c (xs.take (k + 1))) ∧ Below w.heap.size w (wr.alloc (.cells #[.int .i64 x.s, .int .i64 x.n, .int .i64 x.b, .int .i64 x.c, .int .i64 x.a, .int .i64 x.r, .int .i64 x.t, .int .i64 x.y] 39))) := ⟨by rw [HFS.out, HSB.out, if_neg (by decide), List.append_nil]; exact HO.out, HW.out⟩
    clear HFS HSB
    go_wp2_with fail
    go_roundw
    case rel => exact ⟨k + 1, by omega, by go_num, HNX⟩
    case measure => simp [intOf]; omega
  ·have hle : (ni : Int) ≤ (k : Int) := by omega
   have hkn : k = xs.length := by rw [HL.out]; omega
   have hK := HJ.out
   rw [hkn, List.take_length] at hK
   have HF := Lib.hid hK
   obtain ⟨pa, ca, hva⟩ := HF.out.1.form
   generalize (soldL s b c xs).length = na at hva
   subst hva
   clear HJ hK hkn
   go_wp2_with fail
   go_ret
   exact ⟨_, rfl, HF.out.1, HF.out.2⟩
end Go.Proofs.Ytillckkohdjkbaa
namespace Go.Proofs.Ytillckkohdjkbaa
open Go.RowKit
def SRel (W2 : World) (ys : List Itm) (k : Nat) (v : Value) (wr : World) : Prop := Own .i64 wr W2.heap.size 2 v ((ys.take k).map (·.a)) ∧ Below W2.heap.size W2 wr
set_option linter.unusedSimpArgs false in
set_option maxHeartbeats 4000000 in
set_option maxRecDepth 100000 in
theorem total_any (w : World) (v : Value) (ys : List Itm) (hr : TRow encI w v ys) (hn : ys.length ≤ 2000) (ha : Okx ys) :
  Calls Try.prog 17 #[v] w fun e w' => e = .returned (.tuple #[.int .i64 (amtS ys), .int .i64 0]) ∧ Below w.heap.size w w' := by
 have hb := amts_small ha hn
 have HFT : Hid (Fits (ys.map (·.a)).sum) := by show Fits _; unfold Fits; unfold amtS at hb; omega
 have H64 : Hid (All64 (ys.map (·.a))) := fun z hz => by
  obtain ⟨x, hx, rfl⟩ := List.mem_map.1 hz
  have := ha x hx
  constructor <;> omega
 have HSU : Hid (∀ W v, Row .i64 W v (ys.map (·.a)) → Calls Try.prog 28 #[v] W (SumTo (ys.map (·.a)).sum W)) := fun W v h => sum_any v _ W (by rw [List.length_map]; omega) H64.out h
 have HS : Hid (amtS ys = (ys.map (·.a)).sum) := rfl
 obtain ⟨pv, cv, rfl⟩ := hr.shape
 have HR := Lib.hid hr
 clear hr ha hb H64
 generalize hl : ys.length = n at *
 have HL := Lib.hid hl
 clear hl
 have HREL : Hid (SRel w ys 0 (.slice none 0 0) w) := ⟨Own.nil_ _ _ _ _, Below.refl _ _⟩
 go_enter Try.func17, Try.ntmps17
 go_wp2_with fail
 go_loopw [4, 9] (fun v i wr => ∃ k : Nat, k ≤ n ∧ i = .int .i64 k ∧ Hid (SRel w ys k v wr)) (fun _ i _ => n - (intOf i).toNat)
 case atStart => exact ⟨0, by omega, rfl, HREL⟩
 case round =>
  obtain ⟨k, hk, rfl, HK⟩ := hrel
  clear HREL
  by_cases hlt : k < n
  ·have hkl : k < ys.length := by rw [HL.out]; exact hlt
   have hltI : (k : Int) < (n : Int) := by omega
   have HTK : Hid (ys.take (k + 1) = ys.take k ++ [ys[k]]) := List.take_succ_eq_append_getElem hkl
   obtain ⟨b, o, rfl, hbl, hcs⟩ := (HR.out.kept HK.out.2).at_ k hkl
   generalize ys[k] = x at *
   have c0 : wr.cell? ⟨b, o + k * 8, none⟩ = some (.int .i64 x.s) := hcs 0 (by decide)
   have c1 : wr.cell? ⟨b, o + k * 8 + 1, none⟩ = some (.int .i64 x.n) := hcs 1 (by decide)
   have c2 : wr.cell? ⟨b, o + k * 8 + 2, none⟩ = some (.int .i64 x.b) := hcs 2 (by decide)
   have c3 : wr.cell? ⟨b, o + k * 8 + 3, none⟩ = some (.int .i64 x.c) := hcs 3 (by decide)
   have c4 : wr.cell? ⟨b, o + k * 8 + 4, none⟩ = some (.int .i64 x.a) := hcs 4 (by decide)
   have c5 : wr.cell? ⟨b, o + k * 8 + 5, none⟩ = some (.int .i64 x.r) := hcs 5 (by decide)
   have c6 : wr.cell? ⟨b, o + k * 8 + 6, none⟩ = some (.int .i64 x.t) := hcs 6 (by decide)
   have c7 : wr.cell? ⟨b, o + k * 8 + 7, none⟩ = some (.int .i64 x.y) := hcs 7 (by decide)
   have HSUC : Hid ((ys.take (k + 1)).map (·.a) = (ys.take k).map (·.a) ++ [x.a]) := by
    show _ = _
    rw [HTK.out, List.map_append]; rfl
   have HZL : Hid (((ys.take k).map (·.a)).length ≤ 2000) := by show _ ≤ _; rw [List.length_map, List.length_take]; omega
   obtain ⟨ho1, hw1⟩ := HK.out
   obtain ⟨p2, c2, hv2⟩ := ho1.form
   generalize hz : (ys.take k).map (·.a) = zs at *
   generalize hm : zs.length = m at *
   subst hv2
   have hm2 : m ≤ 2000 := HZL.out
   have HMZ := Lib.hid hm
   have HO1 := Lib.hid (ho1.alloc (.cells #[.int .i64 x.s, .int .i64 x.n, .int .i64 x.b, .int .i64 x.c, .int .i64 x.a, .int .i64 x.r, .int .i64 x.t, .int .i64 x.y] 39))
   have HBR := Lib.hid hw1
   have HSZ : Hid (w.heap.size ≤ wr.heap.size) := hw1.size
   clear ho1 hw1 HK hz hm HTK hcs
   go_wp2_with (at_builtin; with_reducible refine stop_appendI (.tmp 13) (.tmp 16) 34 rfl ?_)
   refine wpList_append_row rfl (.tmp 13) (.tmp 16) 34 rfl 2 .i64 8 w.heap.size eltA (.slice p2 m c2) (.slice (some ⟨wr.heap.size + 1, 0, none⟩) 1 1) zs [x.a] rfl rfl (HO1.out.alloc (.cells #[.int .i64 (x.a)] 2)) ⟨some ⟨wr.heap.size + 1, 0, none⟩, 1, rfl, Nat.le_refl _, .inr ⟨wr.heap.size + 1, 0, rfl, fun i hi => ?_⟩⟩ (by have := HMZ.out; simp; omega) (by have := HMZ.out; simp; omega) (by have := HSZ.out; simp at this ⊢; omega) (zs ++ [x.a]) (m + 1) rfl (by rw [List.length_append, HMZ.out]; rfl) ?_
   ·obtain rfl : i = 0 := by simp at hi; omega
    exact (Blk.new' (wr.alloc (.cells #[.int .i64 x.s, .int .i64 x.n, .int .i64 x.b, .int .i64 x.c, .int .i64 x.a, .int .i64 x.r, .int .i64 x.t, .int .i64 x.y] 39)) #[.int .i64 (x.a)] 2 (b := wr.heap.size + 1) (by simp)).cell 0
   intro p3 c3 w3 ho3 hb3
   have HNX : Hid (SRel w ys (k + 1) (.slice p3 (m + 1) c3) w3) := ⟨by rw [HSUC.out]; exact ho3, HBR.out.trans ((((Below.refl _ wr).alloc HSZ.out _).alloc (by have := HSZ.out; simp; omega) _).trans hb3)⟩
   clear ho3 hb3
   go_wp2_with fail
   go_roundw
   case rel => exact ⟨k + 1, by omega, by go_num, HNX⟩
   case measure => simp [intOf]; omega
  ·have hle : (n : Int) ≤ (k : Int) := by omega
   have hkn : k = ys.length := by rw [HL.out]; omega
   have hK := HK.out
   rw [hkn] at hK
   unfold SRel at hK
   rw [List.take_length] at hK
   have HSM := Lib.hid (HSU.out _ _ hK.1.row)
   have HW := Lib.hid hK.2
   clear HK hK hkn
   go_wp2_with fail
   refine HSM.out.mono ?_
   rintro y w3 ⟨rfl, rfl⟩
   rw [sumN_yes HFT.out, sumE_yes HFT.out, ← HS.out]
   go_wp2_with fail
   go_ret2
   exact ⟨rfl, HW.out⟩
set_option linter.unusedSimpArgs false in
set_option maxHeartbeats 4000000 in
set_option maxRecDepth 100000 in
theorem eqI_any (w : World) (v1 v2 : Value) (xs ys : List Itm) (h1 : TRow encI w v1 xs) (h2 : TRow encI w v2 ys) (hn : xs.length ≤ 100000) :
  Calls Try.prog 18 #[v1, v2] w fun e w' => e = .returned (.bool (decide (xs = ys))) ∧ Below w.heap.size w w' := by
 obtain ⟨p1, c1, rfl⟩ := h1.shape
 obtain ⟨p2, c2, rfl⟩ := h2.shape
 have HR1 := Lib.hid h1
 have HR2 := Lib.hid h2
 clear h1 h2
 by_cases hl : xs.length = ys.length
 ·rw [← hl]
  rw [← hl] at HR2
  have HLL := Lib.hid hl
  clear hl
  generalize hl : xs.length = n at *
  have HL := Lib.hid hl
  clear hl
  go_enter Try.func18, Try.ntmps18
  go_wp2_with fail
  go_loopw [13] (fun i wr => ∃ k : Nat, k ≤ n ∧ i = .int .i64 k ∧ Hid (Below w.heap.size w wr ∧ ∀ j (h1 : j < xs.length) (h2 : j < ys.length), j < k → xs[j] = ys[j])) (fun i _ => n - (intOf i).toNat)
  case atStart => exact ⟨0, by omega, rfl, ⟨Below.refl _ _, fun j _ _ hj => by omega⟩⟩
  case round =>
   obtain ⟨k, hk, rfl, HB⟩ := hrel
   by_cases hlt : k < n
   ·have hltI : (k : Int) < (n : Int) := by omega
    have hk1 : k < xs.length := by rw [HL.out]; exact hlt
    have hk2 : k < ys.length := by rw [← HLL.out]; exact hlt
    obtain ⟨b1, o1, rfl, hb1, hcs⟩ := (HR1.out.kept HB.out.1).at_ k hk1
    obtain ⟨b2, o2, rfl, hb2, hds⟩ := (HR2.out.kept HB.out.1).at_ k hk2
    obtain ⟨x, hx⟩ : ∃ x, xs[k] = x := ⟨_, rfl⟩
    obtain ⟨y, hy⟩ : ∃ y, ys[k] = y := ⟨_, rfl⟩
    rw [hx] at hcs
    rw [hy] at hds
    have HX := Lib.hid hx
    have HY := Lib.hid hy
    clear hx hy
    have c0 : wr.cell? ⟨b1, o1 + k * 8, none⟩ = some (.int .i64 x.s) := hcs 0 (by decide)
    have c1 : wr.cell? ⟨b1, o1 + k * 8 + 1, none⟩ = some (.int .i64 x.n) := hcs 1 (by decide)
    have c2 : wr.cell? ⟨b1, o1 + k * 8 + 2, none⟩ = some (.int .i64 x.b) := hcs 2 (by decide)
    have c3 : wr.cell? ⟨b1, o1 + k * 8 + 3, none⟩ = some (.int .i64 x.c) := hcs 3 (by decide)
    have c4 : wr.cell? ⟨b1, o1 + k * 8 + 4, none⟩ = some (.int .i64 x.a) := hcs 4 (by decide)
    have c5 : wr.cell? ⟨b1, o1 + k * 8 + 5, none⟩ = some (.int .i64 x.r) := hcs 5 (by decide)
    have c6 : wr.cell? ⟨b1, o1 + k * 8 + 6, none⟩ = some (.int .i64 x.t) := hcs 6 (by decide)
    have c7 : wr.cell? ⟨b1, o1 + k * 8 + 7, none⟩ = some (.int .i64 x.y) := hcs 7 (by decide)
    have d0 : wr.cell? ⟨b2, o2 + k * 8, none⟩ = some (.int .i64 y.s) := hds 0 (by decide)
    have d1 : wr.cell? ⟨b2, o2 + k * 8 + 1, none⟩ = some (.int .i64 y.n) := hds 1 (by decide)
    have d2 : wr.cell? ⟨b2, o2 + k * 8 + 2, none⟩ = some (.int .i64 y.b) := hds 2 (by decide)
    have d3 : wr.cell? ⟨b2, o2 + k * 8 + 3, none⟩ = some (.int .i64 y.c) := hds 3 (by decide)
    have d4 : wr.cell? ⟨b2, o2 + k * 8 + 4, none⟩ = some (.int .i64 y.a) := hds 4 (by decide)
    have d5 : wr.cell? ⟨b2, o2 + k * 8 + 5, none⟩ = some (.int .i64 y.r) := hds 5 (by decide)
    have d6 : wr.cell? ⟨b2, o2 + k * 8 + 6, none⟩ = some (.int .i64 y.t) := hds 6 (by decide)
    have d7 : wr.cell? ⟨b2, o2 + k * 8 + 7, none⟩ = some (.int .i64 y.y) := hds 7 (by decide)
    have hS1 : wr.drew.cell? ⟨b1, o1 + k * 8, none⟩ = some (.int .i64 x.s) ∧ wr.drew.cell? ⟨b1, o1 + k * 8 + 1, none⟩ = some (.int .i64 x.n) ∧ wr.drew.cell? ⟨b1, o1 + k * 8 + 2, none⟩ = some (.int .i64 x.b) ∧ wr.drew.cell? ⟨b1, o1 + k * 8 + 3, none⟩ = some (.int .i64 x.c) ∧ wr.drew.cell? ⟨b1, o1 + k * 8 + 4, none⟩ = some (.int .i64 x.a) ∧ wr.drew.cell? ⟨b1, o1 + k * 8 + 5, none⟩ = some (.int .i64 x.r) ∧ wr.drew.cell? ⟨b1, o1 + k * 8 + 6, none⟩ = some (.int .i64 x.t) ∧ wr.drew.cell? ⟨b1, o1 + k * 8 + 7, none⟩ = some (.int .i64 x.y) ∧ wr.drew.cell? ⟨b2, o2 + k * 8, none⟩ = some (.int .i64 y.s) ∧ wr.drew.cell? ⟨b2, o2 + k * 8 + 1, none⟩ = some (.int .i64 y.n) ∧ wr.drew.cell? ⟨b2, o2 + k * 8 + 2, none⟩ = some (.int .i64 y.b) ∧ wr.drew.cell? ⟨b2, o2 + k * 8 + 3, none⟩ = some (.int .i64 y.c) ∧ wr.drew.cell? ⟨b2, o2 + k * 8 + 4, none⟩ = some (.int .i64 y.a) ∧ wr.drew.cell? ⟨b2, o2 + k * 8 + 5, none⟩ = some (.int .i64 y.r) ∧ wr.drew.cell? ⟨b2, o2 + k * 8 + 6, none⟩ = some (.int .i64 y.t) ∧ wr.drew.cell? ⟨b2, o2 + k * 8 + 7, none⟩ = some (.int .i64 y.y) := ⟨c0, c1, c2, c3, c4, c5, c6, c7, d0, d1, d2, d3, d4, d5, d6, d7⟩
    have keq := fun (w : World) => item_eq x y w
    clear hcs hds c0 c1 c2 c3 c4 c5 c6 c7 d0 d1 d2 d3 d4 d5 d6 d7
    go_wp2_with fail
    refine wp_region_held_drew (S := fun w' => w'.cell? ⟨b1, o1 + k * 8, none⟩ = some (.int .i64 x.s) ∧ w'.cell? ⟨b1, o1 + k * 8 + 1, none⟩ = some (.int .i64 x.n) ∧ w'.cell? ⟨b1, o1 + k * 8 + 2, none⟩ = some (.int .i64 x.b) ∧ w'.cell? ⟨b1, o1 + k * 8 + 3, none⟩ = some (.int .i64 x.c) ∧ w'.cell? ⟨b1, o1 + k * 8 + 4, none⟩ = some (.int .i64 x.a) ∧ w'.cell? ⟨b1, o1 + k * 8 + 5, none⟩ = some (.int .i64 x.r) ∧ w'.cell? ⟨b1, o1 + k * 8 + 6, none⟩ = some (.int .i64 x.t) ∧ w'.cell? ⟨b1, o1 + k * 8 + 7, none⟩ = some (.int .i64 x.y) ∧ w'.cell? ⟨b2, o2 + k * 8, none⟩ = some (.int .i64 y.s) ∧ w'.cell? ⟨b2, o2 + k * 8 + 1, none⟩ = some (.int .i64 y.n) ∧ w'.cell? ⟨b2, o2 + k * 8 + 2, none⟩ = some (.int .i64 y.b) ∧ w'.cell? ⟨b2, o2 + k * 8 + 3, none⟩ = some (.int .i64 y.c) ∧ w'.cell? ⟨b2, o2 + k * 8 + 4, none⟩ = some (.int .i64 y.a) ∧ w'.cell? ⟨b2, o2 + k * 8 + 5, none⟩ = some (.int .i64 y.r) ∧ w'.cell? ⟨b2, o2 + k * 8 + 6, none⟩ = some (.int .i64 y.t) ∧ w'.cell? ⟨b2, o2 + k * 8 + 7, none⟩ = some (.int .i64 y.y)) (by kernel_rfl) hS1 (fun hS0 => ?_)
    refine tkq 0 ?_
    refine tkq 1 ?_
    refine tkq 2 ?_
    refine tkq 3 ?_
    refine tkq 4 ?_
    refine tkq 5 ?_
    refine tkq 6 ?_
    refine tkq 7 ?_
    refine tkq 8 ?_
    refine wpAnyH_done (by kernel_rfl) ?_ _
    clear keq
    cases hxy : itmEq x y
    ·have HE : Hid (decide (xs = ys) = false) := by
      show _ = _
      apply decide_eq_false
      intro h
      subst h
      have h3 := HX.out.symm.trans HY.out
      rw [itmEq_iff.2 h3] at hxy
      cases hxy
     clear hxy
     go_wp2_with fail
     go_ret
     exact ⟨by rw [HE.out]; rfl, HB.out.1.drew⟩
    ·have HN : Hid (Below w.heap.size w wr.drew ∧ ∀ j (h1 : j < xs.length) (h2 : j < ys.length), j < k + 1 → xs[j] = ys[j]) := ⟨HB.out.1.drew, fun j h1 h2 hj => by
      by_cases e : j = k
      ·subst e; rw [HX.out, HY.out, itmEq_iff.1 hxy]
      ·exact HB.out.2 j h1 h2 (by omega)⟩
     clear hxy
     go_wp2_with fail
     go_roundw
     case rel => exact ⟨k + 1, by omega, by go_num, HN⟩
     case measure => simp [intOf]; omega
   ·have hle : (n : Int) ≤ (k : Int) := by omega
    have HE : Hid (decide (xs = ys) = true) := decide_eq_true (List.ext_getElem (by rw [HL.out]; exact HLL.out) fun j h1 h2 => HB.out.2 j h1 h2 (by have := HL.out; omega))
    go_wp2_with fail
    go_ret
    exact ⟨by rw [HE.out]; rfl, HB.out.1⟩
 ·have HE : Hid (decide (xs = ys) = false) := by
   show _ = _
   apply decide_eq_false
   intro h
   exact hl (by rw [h])
  have hne : ¬ (xs.length : Int) = (ys.length : Int) := by omega
  clear hl
  generalize xs.length = n at *
  generalize ys.length = m at *
  have e1 : ((n : Int) != (m : Int)) = true := by simpa using hne
  clear hne
  go_enter Try.func18, Try.ntmps18
  go_wp2_with fail
  go_ret
  exact ⟨by rw [HE.out]; rfl, Below.refl _ _⟩
end Go.Proofs.Ytillckkohdjkbaa
namespace Go.Proofs.Ytillckkohdjkbaa
open Go.RowKit
set_option linter.unusedSimpArgs false in
set_option maxHeartbeats 4000000 in
set_option maxRecDepth 100000 in
theorem look1_any (w : World) (me : Int) (pi : Option Addr) (ni ci : Nat) (po : Option Addr) (no co : Nat) (g1 g2 g3 : Nat) (s b c : Int) (xs : List Itm) (hr : TRow encI w (.slice pi ni ci) xs) (hl : xs.length = ni) (hn : xs.length ≤ 2000)
  (h1 : w.cell? ⟨g1, 0, none⟩ = some (.int .i64 s)) (h2 : w.cell? ⟨g2, 0, none⟩ = some (.int .i64 b)) (h3 : w.cell? ⟨g3, 0, none⟩ = some (.int .i64 c)) :
  Calls Try.prog 15 #[bookV me (.slice pi ni ci) (.slice po no co), .pointer (some ⟨g1, 0, none⟩), .pointer (some ⟨g2, 0, none⟩), .pointer (some ⟨g3, 0, none⟩)] w fun e w' => ∃ v', e = .returned v' ∧ OwnT encI w' w.heap.size 39 v' (soldL s b c xs) ∧ Below w.heap.size w w' := by
 have HB0 := Lib.hid (oneB w (.cells #[.int .i64 me, .slice pi ni ci, .slice po no co] 26))
 have HS := Lib.hid (sold_any _ me pi ni ci po no co s b c xs (hr.kept HB0.out) hl hn)
 have d1 := (HB0.out.cell (p := ⟨g1, 0, none⟩) (World.block_lt_of_cell? w _ h1)).trans h1
 have d2 := (HB0.out.cell (p := ⟨g2, 0, none⟩) (World.block_lt_of_cell? w _ h2)).trans h2
 have d3 := (HB0.out.cell (p := ⟨g3, 0, none⟩) (World.block_lt_of_cell? w _ h3)).trans h3
 clear hr hl hn h1 h2 h3
 unfold bookV at *
 go_enter Try.func15, Try.ntmps15
 go_wp2_with fail
 have HZ : Hid (w.heap.size ≤ (w.alloc (.cells #[.int .i64 me, .slice pi ni ci, .slice po no co] 26)).heap.size) := HB0.out.size
 generalize w.alloc (.cells #[.int .i64 me, .slice pi ni ci, .slice po no co] 26) = W0 at *
 refine HS.out.mono ?_
 rintro y w1 ⟨v1, rfl, ho1, hb1⟩
 have HO := Lib.hid (ho1.less HZ.out)
 have HB := ktq HB0 hb1
 obtain ⟨pv, cv, hv⟩ := ho1.form
 generalize (soldL s b c xs).length = nl at hv
 subst hv
 clear ho1 hb1 HS
 go_wp2_with fail
 go_ret
 exact ⟨_, rfl, HO.out, HB.out⟩
/-- What Look answers. -/
def pairV (m1 m2 h p : Int) (al : Bool) : Value := .agg #[.int .i64 m1, .int .i64 m2, .int .i64 h, .int .i64 p, .bool al]
def alikeB (m1 m2 cur : Int) (xs ys : List Itm) : Bool := decide (soldL m1 m2 cur xs = soldL m1 m2 cur ys)
def lookV (m1 m2 cur : Int) (xs ys : List Itm) : Value := pairV m1 m2 (amtS (soldL m1 m2 cur xs)) (amtS (soldL m1 m2 cur ys)) (alikeB m1 m2 cur xs ys)
set_option linter.unusedSimpArgs false in
set_option maxHeartbeats 4000000 in
set_option maxRecDepth 100000 in
theorem look_any (w : World) (m1 m2 cur : Int) (p1 q1 p2 q2 : Option Addr) (n1 c1 a1 b1 n2 c2 a2 b2 : Nat) (xs ys : List Itm) (hx : TRow encI w (.slice p1 n1 c1) xs) (hy : TRow encI w (.slice p2 n2 c2) ys) (hlx : xs.length = n1) (hly : ys.length = n2) (hnx : xs.length ≤ 2000) (hny : ys.length ≤ 2000) (hox : Okx xs) (hoy : Okx ys) :
  Calls Try.prog 7 #[bookV m1 (.slice p1 n1 c1) (.slice q1 a1 b1), bookV m2 (.slice p2 n2 c2) (.slice q2 a2 b2), .int .i64 cur] w fun e w' => e = .returned (.tuple #[lookV m1 m2 cur xs ys, .int .i64 0]) ∧ Below w.heap.size w w' := by
 obtain ⟨lx, hlx2⟩ : ∃ lx, soldL m1 m2 cur xs = lx := ⟨_, rfl⟩
 obtain ⟨ly, hly2⟩ : ∃ ly, soldL m1 m2 cur ys = ly := ⟨_, rfl⟩
 have HV : Hid (lookV m1 m2 cur xs ys = pairV m1 m2 (amtS lx) (amtS ly) (decide (lx = ly))) := by show _ = _; unfold lookV alikeB; rw [hlx2, hly2]
 have hlxn : lx.length ≤ 2000 := by rw [← hlx2]; exact Nat.le_trans (soldL_len _ _ _ _) hnx
 have hlyn : ly.length ≤ 2000 := by rw [← hly2]; exact Nat.le_trans (soldL_len _ _ _ _) hny
 have hlxo : Okx lx := by rw [← hlx2]; exact soldL_ok hox
 have hlyo : Okx ly := by rw [← hly2]; exact soldL_ok hoy
 have hmf : ∀ (fn : Fn) (first cap : Array Value) (w : World), (Instr.makeFunc fn first cap).run Try.prog w = .ok (.func fn first cap) w := fun _ _ _ _ => rfl
 have HCX := Lib.hid (fun W (h : Below w.heap.size w W) (g1 g2 g3 : Nat) (h1 : W.cell? ⟨g1, 0, none⟩ = some (.int .i64 m1)) (h2 : W.cell? ⟨g2, 0, none⟩ = some (.int .i64 m2)) (h3 : W.cell? ⟨g3, 0, none⟩ = some (.int .i64 cur)) => look1_any W m1 p1 n1 c1 q1 a1 b1 g1 g2 g3 m1 m2 cur xs (hx.kept h) hlx hnx h1 h2 h3)
 have HCY := Lib.hid (fun W (h : Below w.heap.size w W) (g1 g2 g3 : Nat) (h1 : W.cell? ⟨g1, 0, none⟩ = some (.int .i64 m1)) (h2 : W.cell? ⟨g2, 0, none⟩ = some (.int .i64 m2)) (h3 : W.cell? ⟨g3, 0, none⟩ = some (.int .i64 cur)) => look1_any W m2 p2 n2 c2 q2 a2 b2 g1 g2 g3 m1 m2 cur ys (hy.kept h) hly hny h1 h2 h3)
 rw [hlx2] at HCX
 rw [hly2] at HCY
 have HTX := Lib.hid (fun W v (h : TRow encI W v lx) => total_any W v lx h hlxn hlxo)
 have HTY := Lib.hid (fun W v (h : TRow encI W v ly) => total_any W v ly h hlyn hlyo)
 have HEQ := Lib.hid (fun W v u (h : TRow encI W v lx) (k : TRow encI W u ly) => eqI_any W v u lx ly h k (by omega))
 clear hx hy hlx hly hnx hny hox hoy hlxo hlyo hlx2 hly2
 obtain ⟨AX, hAX⟩ : ∃ AX, amtS lx = AX := ⟨_, rfl⟩
 obtain ⟨AY, hAY⟩ : ∃ AY, amtS ly = AY := ⟨_, rfl⟩
 obtain ⟨AL, hAL⟩ : ∃ AL, decide (lx = ly) = AL := ⟨_, rfl⟩
 rw [hAX, hAY, hAL] at HV
 rw [hAX] at HTX
 rw [hAY] at HTY
 rw [hAL] at HEQ
 clear hAX hAY hAL
 unfold bookV at *
 go_enter Try.func7, Try.ntmps7
 go_wp2_with fail
 generalize hW1 : (((w.alloc (.cells #[.int .i64 m1, .slice p1 n1 c1, .slice q1 a1 b1] 26)).alloc (.cells #[.int .i64 m2, .slice p2 n2 c2, .slice q2 a2 b2] 26)).alloc (.cells #[.int .i64 cur] 3)).alloc (.cells #[.int .i64 0, .int .i64 0, .int .i64 0, .int .i64 0, .bool false] 30) = W1
 have HB1 : Hid (Below w.heap.size w W1) := by show Below _ _ _; rw [← hW1]; exact (((oneB w _).alloc (by simp) _).alloc (by simp <;> omega) _).alloc (by simp <;> omega) _
 have HK1 : Hid (Blk W1 w.heap.size #[.int .i64 m1, .slice p1 n1 c1, .slice q1 a1 b1] 26) := by show Blk _ _ _ _; rw [← hW1]; exact (((Blk.new w _ _).alloc _).alloc _).alloc _
 have HK2 : Hid (Blk W1 (w.heap.size + 1) #[.int .i64 m2, .slice p2 n2 c2, .slice q2 a2 b2] 26) := by show Blk _ _ _ _; rw [← hW1]; exact ((Blk.new' _ _ _ (by simp)).alloc _).alloc _
 have HK3 : Hid (Blk W1 (w.heap.size + 1 + 1) #[.int .i64 cur] 3) := by show Blk _ _ _ _; rw [← hW1]; exact (Blk.new' _ _ _ (by simp)).alloc _
 have HK4 : Hid (Blk W1 (w.heap.size + 1 + 1 + 1) #[.int .i64 0, .int .i64 0, .int .i64 0, .int .i64 0, .bool false] 30) := by show Blk _ _ _ _; rw [← hW1]; exact Blk.new' _ _ _ (by simp)
 clear hW1
 have hS1 : W1.drew.cell? ⟨w.heap.size, 0, none⟩ = some (.int .i64 m1) ∧ W1.drew.cell? ⟨w.heap.size, 1, none⟩ = some (.slice p1 n1 c1) ∧ W1.drew.cell? ⟨w.heap.size, 2, none⟩ = some (.slice q1 a1 b1) ∧ W1.drew.cell? ⟨(w.heap.size + 1), 0, none⟩ = some (.int .i64 m2) ∧ W1.drew.cell? ⟨(w.heap.size + 1), 1, none⟩ = some (.slice p2 n2 c2) ∧ W1.drew.cell? ⟨(w.heap.size + 1), 2, none⟩ = some (.slice q2 a2 b2) := ⟨HK1.out.cell 0, HK1.out.cell 1, HK1.out.cell 2, HK2.out.cell 0, HK2.out.cell 1, HK2.out.cell 2⟩
 have HS : Hid (∀ w', Below W1.heap.size W1 w' → w'.cell? ⟨w.heap.size, 0, none⟩ = some (.int .i64 m1) ∧ w'.cell? ⟨w.heap.size, 1, none⟩ = some (.slice p1 n1 c1) ∧ w'.cell? ⟨w.heap.size, 2, none⟩ = some (.slice q1 a1 b1) ∧ w'.cell? ⟨(w.heap.size + 1), 0, none⟩ = some (.int .i64 m2) ∧ w'.cell? ⟨(w.heap.size + 1), 1, none⟩ = some (.slice p2 n2 c2) ∧ w'.cell? ⟨(w.heap.size + 1), 2, none⟩ = some (.slice q2 a2 b2)) := fun w' h => ⟨(HK1.out.below h HK1.out.lt).cell 0, (HK1.out.below h HK1.out.lt).cell 1, (HK1.out.below h HK1.out.lt).cell 2, (HK2.out.below h HK2.out.lt).cell 0, (HK2.out.below h HK2.out.lt).cell 1, (HK2.out.below h HK2.out.lt).cell 2⟩
 refine wp_region_held_drew (S := fun w' => w'.cell? ⟨w.heap.size, 0, none⟩ = some (.int .i64 m1) ∧ w'.cell? ⟨w.heap.size, 1, none⟩ = some (.slice p1 n1 c1) ∧ w'.cell? ⟨w.heap.size, 2, none⟩ = some (.slice q1 a1 b1) ∧ w'.cell? ⟨(w.heap.size + 1), 0, none⟩ = some (.int .i64 m2) ∧ w'.cell? ⟨(w.heap.size + 1), 1, none⟩ = some (.slice p2 n2 c2) ∧ w'.cell? ⟨(w.heap.size + 1), 2, none⟩ = some (.slice q2 a2 b2)) (by kernel_rfl) hS1 (fun hS0 => ?_)
 refine tkq 0 ?_
 refine tkq 1 ?_
 refine tkq 3 ?_
 refine tkq 4 ?_
 refine rdq 2 (fun K hK => ?_)
 go_simp
 go_at_call 15
 refine (HCX.out W1.drew HB1.out.drew _ _ _ (HK1.out.cell 0) (HK2.out.cell 0) (HK3.out.cell 0)).mono ?_
 rintro y w2 ⟨v2, rfl, ho2, hb2⟩
 have HB2X := Lib.hid ((Below.refl W1.heap.size W1).drew.trans (hb2.mono (Nat.le_refl _)))
 have HB2 := Lib.hid (HB1.out.trans (HB2X.out.mono HB1.out.size))
 have HO2 := Lib.hid ho2.row
 obtain ⟨pv2, cv2, hv2⟩ := ho2.form
 generalize lx.length = nx at hv2
 subst hv2
 clear hb2 ho2
 try go_wp2_with fail
 refine hK.out _ _ (HS.out w2 HB2X.out) (fun hS => ?_)
 clear hK K
 try simp only [Act.put, List.getElem_toArray, List.getElem_cons_succ, List.getElem_cons_zero, List.setIfInBounds_toArray, List.set_cons_zero, List.set_cons_succ]
 refine rdq 5 (fun K hK => ?_)
 go_simp
 go_at_call 15
 refine (HCY.out w2 HB2.out _ _ _ ((HK1.out.below HB2X.out HK1.out.lt).cell 0) ((HK2.out.below HB2X.out HK2.out.lt).cell 0) ((HK3.out.below HB2X.out HK3.out.lt).cell 0)).mono ?_
 rintro y w3 ⟨v3, rfl, ho3, hb3⟩
 have HB3X := ktq HB2X hb3
 have HB3 := Lib.hid (HB1.out.trans (HB3X.out.mono HB1.out.size))
 have HO3 := Lib.hid (HO2.out.kept hb3)
 have HP3 := Lib.hid ho3.row
 obtain ⟨pv3, cv3, hv3⟩ := ho3.form
 generalize ly.length = ny at hv3
 subst hv3
 clear hb3 ho3 HO2
 try go_wp2_with fail
 refine hK.out _ _ (HS.out w3 HB3X.out) (fun hS => ?_)
 clear hK K
 try simp only [Act.put, List.getElem_toArray, List.getElem_cons_succ, List.getElem_cons_zero, List.setIfInBounds_toArray, List.set_cons_zero, List.set_cons_succ]
 refine tkq 6 ?_
 refine tkq 7 ?_
 refine wpAnyH_done (by kernel_rfl) ?_ _
 clear HCX HCY HS hS1 hS0
 go_wp2_with fail
 refine (HTX.out w3 _ HO3.out).mono ?_
 rintro y w4 ⟨rfl, hb4⟩
 have HB4X := ktq HB3X hb4
 have HO4 := Lib.hid (HO3.out.kept hb4)
 have HP4 := Lib.hid (HP3.out.kept hb4)
 clear hb4 HO3 HP3 HTX
 go_wp2_with fail
 refine (HTY.out w4 _ HP4.out).mono ?_
 rintro y w5 ⟨rfl, hb5⟩
 have HB5X := ktq HB4X hb5
 have HO5 := Lib.hid (HO4.out.kept hb5)
 have HP5 := Lib.hid (HP4.out.kept hb5)
 clear hb5 HO4 HP4 HTY
 have HE5D := Lib.hid (HEQ.out w5.drew _ _ (HO5.out.kept (Below.refl w5.heap.size w5).drew) (HP5.out.kept (Below.refl w5.heap.size w5).drew))
 have HK15 := Lib.hid (HK1.out.below HB5X.out HK1.out.lt)
 have HK25 := Lib.hid (HK2.out.below HB5X.out HK2.out.lt)
 have HK45 := Lib.hid (HK4.out.below HB5X.out HK4.out.lt)
 have HB5 := Lib.hid (HB1.out.trans (HB5X.out.mono HB1.out.size))
 have HGL : Hid (w.heap.size ≤ w.heap.size + 1 + 1 + 1) := by show _ ≤ _; omega
 clear HK1 HK2 HK3 HK4 HB1 HB2 HB3 HB2X HB3X HB4X HB5X HO5 HP5 HEQ
 go_wp2_with fail
 have hS2 : w5.drew.cell? ⟨w.heap.size, 0, none⟩ = some (.int .i64 m1) ∧ w5.drew.cell? ⟨w.heap.size + 1, 0, none⟩ = some (.int .i64 m2) := ⟨HK15.out.cell 0, HK25.out.cell 0⟩
 refine wp_region_held_drew (S := fun w' => w'.cell? ⟨w.heap.size, 0, none⟩ = some (.int .i64 m1) ∧ w'.cell? ⟨w.heap.size + 1, 0, none⟩ = some (.int .i64 m2)) (by kernel_rfl) hS2 (fun hS0 => ?_)
 refine tkq 0 ?_
 refine tkq 1 ?_
 refine tkq 2 ?_
 refine tkq 3 ?_
 refine tkq 4 ?_
 refine tkq 5 ?_
 refine tkq 6 ?_
 refine tkq 7 ?_
 refine rdq 8 (fun K hK => ?_)
 go_simp
 go_at_call 18
 refine (HE5D.out).mono ?_
 rintro y w6 ⟨rfl, hb6⟩
 have HB6X := Lib.hid ((Below.refl w5.heap.size w5).drew.trans (hb6.mono (Nat.le_refl _)))
 have HK16 := Lib.hid (HK15.out.below HB6X.out HK15.out.lt)
 have HK26 := Lib.hid (HK25.out.below HB6X.out HK25.out.lt)
 have HK46 := Lib.hid (HK45.out.below HB6X.out HK45.out.lt)
 have HB6 := Lib.hid (HB5.out.trans (HB6X.out.mono HB5.out.size))
 clear hb6
 try go_wp2_with fail
 refine hK.out _ _ ⟨HK16.out.cell 0, HK26.out.cell 0⟩ (fun hS => ?_)
 clear hK K
 try simp only [Act.put, List.getElem_toArray, List.getElem_cons_succ, List.getElem_cons_zero, List.setIfInBounds_toArray, List.set_cons_zero, List.set_cons_succ]
 refine tkq 9 ?_
 have z0 : w6.cell? ⟨w.heap.size + 1 + 1 + 1, 0, none⟩ = some (.int .i64 0) := HK46.out.cell 0
 have z1 : w6.cell? ⟨w.heap.size + 1 + 1 + 1, 1, none⟩ = some (.int .i64 0) := HK46.out.cell 1
 have z2 : w6.cell? ⟨w.heap.size + 1 + 1 + 1, 2, none⟩ = some (.int .i64 0) := HK46.out.cell 2
 have z3 : w6.cell? ⟨w.heap.size + 1 + 1 + 1, 3, none⟩ = some (.int .i64 0) := HK46.out.cell 3
 have z4 : w6.cell? ⟨w.heap.size + 1 + 1 + 1, 4, none⟩ = some (.bool false) := HK46.out.cell 4
 have f0 := HK46.out.free 0
 have f1 := HK46.out.free 1
 have f2 := HK46.out.free 2
 have f3 := HK46.out.free 3
 have f4 := HK46.out.free 4
 refine rdq 10 (fun K hK => ?_)
 go_simp
 have HK17 : Hid (Blk (((((w6.setCell ⟨w.heap.size + 1 + 1 + 1, 0, none⟩ (.int .i64 m1)).setCell ⟨w.heap.size + 1 + 1 + 1, 1, none⟩ (.int .i64 m2)).setCell ⟨w.heap.size + 1 + 1 + 1, 2, none⟩ (.int .i64 AX)).setCell ⟨w.heap.size + 1 + 1 + 1, 3, none⟩ (.int .i64 AY)).setCell ⟨w.heap.size + 1 + 1 + 1, 4, none⟩ (.bool AL)) w.heap.size #[.int .i64 m1, .slice p1 n1 c1, .slice q1 a1 b1] 26) := ((((HK16.out.setOther (by simp; omega) _).setOther (by simp; omega) _).setOther (by simp; omega) _).setOther (by simp; omega) _).setOther (by simp; omega) _
 have HK27 : Hid (Blk (((((w6.setCell ⟨w.heap.size + 1 + 1 + 1, 0, none⟩ (.int .i64 m1)).setCell ⟨w.heap.size + 1 + 1 + 1, 1, none⟩ (.int .i64 m2)).setCell ⟨w.heap.size + 1 + 1 + 1, 2, none⟩ (.int .i64 AX)).setCell ⟨w.heap.size + 1 + 1 + 1, 3, none⟩ (.int .i64 AY)).setCell ⟨w.heap.size + 1 + 1 + 1, 4, none⟩ (.bool AL)) (w.heap.size + 1) #[.int .i64 m2, .slice p2 n2 c2, .slice q2 a2 b2] 26) := ((((HK26.out.setOther (by simp; omega) _).setOther (by simp; omega) _).setOther (by simp; omega) _).setOther (by simp; omega) _).setOther (by simp; omega) _
 have HK47 : Hid (Blk (((((w6.setCell ⟨w.heap.size + 1 + 1 + 1, 0, none⟩ (.int .i64 m1)).setCell ⟨w.heap.size + 1 + 1 + 1, 1, none⟩ (.int .i64 m2)).setCell ⟨w.heap.size + 1 + 1 + 1, 2, none⟩ (.int .i64 AX)).setCell ⟨w.heap.size + 1 + 1 + 1, 3, none⟩ (.int .i64 AY)).setCell ⟨w.heap.size + 1 + 1 + 1, 4, none⟩ (.bool AL)) (w.heap.size + 1 + 1 + 1) #[.int .i64 m1, .int .i64 m2, .int .i64 AX, .int .i64 AY, .bool AL] 30) := ((((HK46.out.set 0 (.int .i64 m1)).set 1 (.int .i64 m2)).set 2 (.int .i64 AX)).set 3 (.int .i64 AY)).set 4 (.bool AL)
 have HB7 : Hid (Below w.heap.size w (((((w6.setCell ⟨w.heap.size + 1 + 1 + 1, 0, none⟩ (.int .i64 m1)).setCell ⟨w.heap.size + 1 + 1 + 1, 1, none⟩ (.int .i64 m2)).setCell ⟨w.heap.size + 1 + 1 + 1, 2, none⟩ (.int .i64 AX)).setCell ⟨w.heap.size + 1 + 1 + 1, 3, none⟩ (.int .i64 AY)).setCell ⟨w.heap.size + 1 + 1 + 1, 4, none⟩ (.bool AL))) := ((((HB6.out.setCell HGL.out _).setCell HGL.out _).setCell HGL.out _).setCell HGL.out _).setCell HGL.out _
 generalize (((((w6.setCell ⟨w.heap.size + 1 + 1 + 1, 0, none⟩ (.int .i64 m1)).setCell ⟨w.heap.size + 1 + 1 + 1, 1, none⟩ (.int .i64 m2)).setCell ⟨w.heap.size + 1 + 1 + 1, 2, none⟩ (.int .i64 AX)).setCell ⟨w.heap.size + 1 + 1 + 1, 3, none⟩ (.int .i64 AY)).setCell ⟨w.heap.size + 1 + 1 + 1, 4, none⟩ (.bool AL)) = W7 at *
 refine hK.out _ _ ⟨HK17.out.cell 0, HK27.out.cell 0⟩ (fun hS => ?_)
 clear hK K
 try simp only [Act.put, List.getElem_toArray, List.getElem_cons_succ, List.getElem_cons_zero, List.setIfInBounds_toArray, List.set_cons_zero, List.set_cons_succ]
 refine tkq 11 ?_
 refine wpAnyH_done (by kernel_rfl) ?_ _
 have r0 : W7.cell? ⟨w.heap.size + 1 + 1 + 1, 0, none⟩ = some (.int .i64 m1) := HK47.out.cell 0
 have r1 : W7.cell? ⟨w.heap.size + 1 + 1 + 1, 1, none⟩ = some (.int .i64 m2) := HK47.out.cell 1
 have r2 : W7.cell? ⟨w.heap.size + 1 + 1 + 1, 2, none⟩ = some (.int .i64 AX) := HK47.out.cell 2
 have r3 : W7.cell? ⟨w.heap.size + 1 + 1 + 1, 3, none⟩ = some (.int .i64 AY) := HK47.out.cell 3
 have r4 : W7.cell? ⟨w.heap.size + 1 + 1 + 1, 4, none⟩ = some (.bool AL) := HK47.out.cell 4
 go_wp2_with fail
 refine bodyPost_ret (v := .tuple #[pairV m1 m2 AX AY AL, .int .i64 0]) (by simp [results, Try.results7, go_sem, pairV, r0, r1, r2, r3, r4]) rfl ⟨by rw [HV.out], HB7.out⟩
set_option linter.unusedSimpArgs false in
set_option maxHeartbeats 4000000 in
set_option maxRecDepth 100000 in
theorem alike_any (w : World) (m1 m2 cur : Int) (p1 q1 p2 q2 : Option Addr) (n1 c1 a1 b1 n2 c2 a2 b2 : Nat) (xs ys : List Itm) (hx : TRow encI w (.slice p1 n1 c1) xs) (hy : TRow encI w (.slice p2 n2 c2) ys) (hlx : xs.length = n1) (hly : ys.length = n2) (hnx : xs.length ≤ 2000) (hny : ys.length ≤ 2000) (hox : Okx xs) (hoy : Okx ys) :
  Calls Try.prog 25 #[bookV m1 (.slice p1 n1 c1) (.slice q1 a1 b1), bookV m2 (.slice p2 n2 c2) (.slice q2 a2 b2), .int .i64 cur] w fun e w' => e = .returned (.bool (alikeB m1 m2 cur xs ys)) ∧ Below w.heap.size w w' := by
 have HL := Lib.hid (fun W (h : Below w.heap.size w W) => look_any W m1 m2 cur p1 q1 p2 q2 n1 c1 a1 b1 n2 c2 a2 b2 xs ys (hx.kept h) (hy.kept h) hlx hly hnx hny hox hoy)
 unfold lookV pairV at HL
 clear hx hy hlx hly hnx hny hox hoy
 generalize amtS (soldL m1 m2 cur xs) = AX at *
 generalize amtS (soldL m1 m2 cur ys) = AY at *
 generalize alikeB m1 m2 cur xs ys = AL at *
 have HB1 := Lib.hid ((oneB w (.cells #[.int .i64 m1, .slice p1 n1 c1, .slice q1 a1 b1] 26)).alloc (by simp) (.cells #[.int .i64 m2, .slice p2 n2 c2, .slice q2 a2 b2] 26))
 unfold bookV at *
 go_enter Try.func25, Try.ntmps25
 go_wp2_with fail
 generalize (w.alloc (.cells #[.int .i64 m1, .slice p1 n1 c1, .slice q1 a1 b1] 26)).alloc (.cells #[.int .i64 m2, .slice p2 n2 c2, .slice q2 a2 b2] 26) = W1 at *
 refine (HL.out W1 HB1.out).mono ?_
 rintro y w2 ⟨rfl, hb2⟩
 have HB2 := ktq HB1 hb2
 have HB3 := Lib.hid (HB2.out.trans ((oneB w2 (.cells #[.int .i64 m1, .int .i64 m2, .int .i64 AX, .int .i64 AY, .bool AL] 30)).mono HB2.out.size))
 clear hb2 HL
 go_wp2_with fail
 go_ret
 exact ⟨rfl, HB3.out⟩
end Go.Proofs.Ytillckkohdjkbaa
namespace Go.Proofs.Ytillckkohdjkbaa
open Go.RowKit
def keepI (cur oth : Int) (x : Itm) : Bool := !dropI cur oth x
theorem Kept3.keptB {B : Nat} {w w' : World} {bf bc bo : Nat} {cur oth : Int} (h : Kept3 w bf bc bo cur oth) (hb : Below B w w') (h1 : bf < B) (h2 : bc < B) (h3 : bo < B) : Kept3 w' bf bc bo cur oth :=
 ⟨(hb.cell (p := ⟨bf, 0, none⟩) h1).trans h.1, (hb.cell (p := ⟨bc, 0, none⟩) h2).trans h.2.1, (hb.cell (p := ⟨bo, 0, none⟩) h3).trans h.2.2⟩
set_option linter.unusedSimpArgs false in
set_option maxHeartbeats 4000000 in
set_option maxRecDepth 100000 in
theorem agreed_any (w : World) (me : Int) (pi po : Option Addr) (ni ci no co : Nat) (xs : List Itm) (cur oth : Int) (bc bo : Nat) (hr : TRow encI w (.slice pi ni ci) xs) (hc : w.cell? ⟨bc, 0, none⟩ = some (.int .i64 cur)) (ho : w.cell? ⟨bo, 0, none⟩ = some (.int .i64 oth)) (hn : xs.length ≤ 2000) :
  Calls Try.prog 40 #[bookV me (.slice pi ni ci) (.slice po no co), (.func (.func 41) #[] #[.pointer (some ⟨bc, 0, none⟩), .pointer (some ⟨bo, 0, none⟩)])] w fun e w' => ∃ v', e = .returned v' ∧ OwnT encI w' w.heap.size 39 v' (xs.filter (keepI cur oth)) ∧ Below w.heap.size w w' := by
 have hmf : ∀ (fn : Fn) (first cap : Array Value) (w : World), (Instr.makeFunc fn first cap).run Try.prog w = .ok (.func fn first cap) w := fun _ _ _ _ => rfl
 have hbc := World.block_lt_of_cell? w _ hc
 have hbo := World.block_lt_of_cell? w _ ho
 have hW0 : ∀ T, Below w.heap.size w ((w.alloc (.cells #[.int .i64 me, .slice pi ni ci, .slice po no co] 26)).alloc (.cells #[(.func (.func 41) #[] #[.pointer (some ⟨bc, 0, none⟩), .pointer (some ⟨bo, 0, none⟩)])] T)) := fun T => (oneB w _).alloc (by simp) _
 have HCL := Lib.hid (fun T => cloneI_any _ (.slice pi ni ci) xs (hr.kept (hW0 T)) hn)
 have HK3 : Hid (∀ T, Kept3 ((w.alloc (.cells #[.int .i64 me, .slice pi ni ci, .slice po no co] 26)).alloc (.cells #[(.func (.func 41) #[] #[.pointer (some ⟨bc, 0, none⟩), .pointer (some ⟨bo, 0, none⟩)])] T)) (w.heap.size + 1) bc bo cur oth) := fun T => ⟨(Blk.new' _ _ _ (by simp)).cell 0, ((hW0 T).cell (p := ⟨bc, 0, none⟩) hbc).trans hc, ((hW0 T).cell (p := ⟨bo, 0, none⟩) hbo).trans ho⟩
 have HW0 := Lib.hid hW0
 have HBC := Lib.hid hbc
 have HBO := Lib.hid hbo
 clear hr hc ho hW0 hbc hbo
 unfold bookV
 go_enter Try.func40, Try.ntmps40
 go_wp2_with fail
 have HS0 : Hid (((w.alloc (.cells #[.int .i64 me, .slice pi ni ci, .slice po no co] 26)).alloc (.cells #[(.func (.func 41) #[] #[.pointer (some ⟨bc, 0, none⟩), .pointer (some ⟨bo, 0, none⟩)])] 83)).heap.size = w.heap.size + 1 + 1) := by show _ = _; simp
 refine (HCL.out _).mono ?_
 rintro y w1 ⟨v1, rfl, ho1, hb1⟩
 have HB := Lib.hid ((HW0.out 83).trans (hb1.mono (HW0.out _).size))
 have HSAY : Hid (Says (dropI cur oth) (w.heap.size + 1 + 1) (w.heap.size + 1) w1) := fun W hb x => by
  have k := ((HK3.out 83).kept hb1).keptB hb (Nat.lt_succ_self _) (Nat.lt_succ_of_lt (Nat.lt_succ_of_lt HBC.out)) (Nat.lt_succ_of_lt (Nat.lt_succ_of_lt HBO.out))
  exact drop_any W x cur oth _ bc bo k.1 k.2.1 k.2.2
 have hsz : w.heap.size + 1 + 1 ≤ w1.heap.size := by rw [← HS0.out]; exact hb1.size
 rw [HS0.out] at ho1
 have HD := Lib.hid (delete_any w1 v1 xs (dropI cur oth) (w.heap.size + 1 + 1) (w.heap.size + 1) ho1 HSAY.out hsz hn)
 clear ho1 hb1 HCL HK3 HW0 HSAY
 go_wp2_with fail
 refine HD.out.mono ?_
 rintro y w2 ⟨v2, rfl, ho2, hb2⟩
 have HO2 : Hid (OwnT encI w2 (w.heap.size + 1 + 1) 39 v2 (xs.filter (keepI cur oth))) := ho2
 have HB2 := Lib.hid (HB.out.trans (hb2.mono (by omega)))
 clear hb2 HD ho2
 obtain ⟨p1, c1, hv1⟩ := HO2.out.form
 generalize (xs.filter (keepI cur oth)).length = n1 at hv1
 subst hv1
 go_wp2_with fail
 go_ret
 exact ⟨_, rfl, HO2.out.less (by omega), HB2.out⟩
set_option linter.unusedSimpArgs false in
set_option maxHeartbeats 4000000 in
set_option maxRecDepth 100000 in
theorem open_any (w : World) (me : Int) (pi po : Option Addr) (ni ci no co : Nat) (xs : List Itm) (cur oth S E : Int) (hr : TRow encI w (.slice pi ni ci) xs) (hn : xs.length ≤ 2000) (ha : ∀ x ∈ xs, 1 ≤ x.a ∧ x.a ≤ 1125899906842624) (hS : sumN ((xs.filter (keepI cur oth)).map (amtI me)).sum = S) (hE : sumE ((xs.filter (keepI cur oth)).map (amtI me)).sum = E) :
  Calls Try.prog 26 #[bookV me (.slice pi ni ci) (.slice po no co), .int .i64 cur, .int .i64 oth] w fun e w' => e = .returned (.tuple #[.int .i64 S, .int .i64 E]) ∧ Below w.heap.size w w' := by
 obtain ⟨ys, hys⟩ : ∃ ys, xs.filter (keepI cur oth) = ys := ⟨_, rfl⟩
 have hAGR := fun (W : World) (bc bo : Nat) (hb : Below w.heap.size w W) (hc : W.cell? ⟨bc, 0, none⟩ = some (.int .i64 cur)) (ho : W.cell? ⟨bo, 0, none⟩ = some (.int .i64 oth)) => agreed_any W me pi po ni ci no co xs cur oth bc bo (hr.kept hb) hc ho hn
 have ha : ∀ x ∈ ys, 1 ≤ x.a ∧ x.a ≤ 1125899906842624 := fun x hx => by rw [← hys] at hx; exact ha x (List.mem_filter.1 hx).1
 have hn : ys.length ≤ 2000 := by rw [← hys]; exact Nat.le_trans (List.length_filter_le _ _) hn
 rw [hys] at hS hE hAGR
 clear hr hys
 have hmf : ∀ (fn : Fn) (first cap : Array Value) (w : World), (Instr.makeFunc fn first cap).run Try.prog w = .ok (.func fn first cap) w := fun _ _ _ _ => rfl
 have H64 : Hid (All64 (ys.map (amtI me))) := fun z hz => by
  obtain ⟨x, hx, rfl⟩ := List.mem_map.1 hz
  have := ha x hx
  unfold amtI
  split <;> constructor <;> omega
 have HSU : Hid (∀ W v, Row .i64 W v (ys.map (amtI me)) → Calls Try.prog 28 #[v] W (SumTo (ys.map (amtI me)).sum W)) := fun W v h => sum_any v _ W (by rw [List.length_map]; omega) H64.out h
 have HA := Lib.hid ha
 have HS := Lib.hid hS
 have HE := Lib.hid hE
 have HAG := Lib.hid (fun (W : World) (bc bo : Nat) (hb : Below w.heap.size w W) (hc : W.cell? ⟨bc, 0, none⟩ = some (.int .i64 cur)) (ho : W.cell? ⟨bo, 0, none⟩ = some (.int .i64 oth)) => hAGR W bc bo hb hc ho)
 clear ha hS hE H64 hAGR
 generalize hl : ys.length = n at *
 have HL := Lib.hid hl
 clear hl
 unfold bookV at *
 go_enter Try.func26, Try.ntmps26
 go_wp2_with fail
 generalize hW1 : ((w.alloc (.cells #[.int .i64 me, .slice pi ni ci, .slice po no co] 26)).alloc (.cells #[.int .i64 cur] 3)).alloc (.cells #[.int .i64 oth] 3) = W1
 have HB1 : Hid (Below w.heap.size w W1) := by show Below _ _ _; rw [← hW1]; exact ((oneB w _).alloc (by simp) _).alloc (by simp <;> omega) _
 have HK1 : Hid (Blk W1 w.heap.size #[.int .i64 me, .slice pi ni ci, .slice po no co] 26) := by show Blk _ _ _ _; rw [← hW1]; exact ((Blk.new w _ _).alloc _).alloc _
 have HC1 : Hid (Blk W1 (w.heap.size + 1) #[.int .i64 cur] 3) := by show Blk _ _ _ _; rw [← hW1]; exact (Blk.new' _ _ _ (by simp)).alloc _
 have HO1 : Hid (Blk W1 (w.heap.size + 1 + 1) #[.int .i64 oth] 3) := by show Blk _ _ _ _; rw [← hW1]; exact Blk.new' _ _ _ (by simp)
 clear hW1
 refine (HAG.out W1 _ _ HB1.out (HC1.out.cell 0) (HO1.out.cell 0)).mono ?_
 rintro y W2 ⟨v1, rfl, ho1, hb1⟩
 obtain ⟨p1, c1, hv1⟩ := ho1.form
 rw [HL.out] at hv1
 subst hv1
 have HR := Lib.hid ho1.row
 have HB2 := ktq HB1 hb1
 have HK2 := kbq HK1 hb1
 clear ho1 hb1 HAG HK1 HC1 HO1 HB1
 have HREL : Hid (ORel W2 me ys 0 (.slice none 0 0) W2) := ⟨Own.nil_ _ _ _ _, Below.refl _ _⟩
 go_wp2_with fail
 go_loopw [9, 17] (fun v i wr => ∃ k : Nat, k ≤ n ∧ i = .int .i64 k ∧ Hid (ORel W2 me ys k v wr)) (fun _ i _ => n - (intOf i).toNat)
 case atStart => exact ⟨0, by omega, rfl, HREL⟩
 case round =>
  obtain ⟨k, hk, rfl, HK⟩ := hrel
  clear HREL
  by_cases hlt : k < n
  ·have hkl : k < ys.length := by rw [HL.out]; exact hlt
   have hltI : (k : Int) < (n : Int) := by omega
   have HTK : Hid (ys.take (k + 1) = ys.take k ++ [ys[k]]) := List.take_succ_eq_append_getElem hkl
   obtain ⟨b, o, rfl, hbl, hcs⟩ := (HR.out.kept HK.out.2).at_ k hkl
   have hax := HA.out _ (List.getElem_mem hkl)
   generalize ys[k] = x at *
   have c0 : wr.cell? ⟨b, o + k * 8, none⟩ = some (.int .i64 x.s) := hcs 0 (by decide)
   have c1 : wr.cell? ⟨b, o + k * 8 + 1, none⟩ = some (.int .i64 x.n) := hcs 1 (by decide)
   have c2 : wr.cell? ⟨b, o + k * 8 + 2, none⟩ = some (.int .i64 x.b) := hcs 2 (by decide)
   have c3 : wr.cell? ⟨b, o + k * 8 + 3, none⟩ = some (.int .i64 x.c) := hcs 3 (by decide)
   have c4 : wr.cell? ⟨b, o + k * 8 + 4, none⟩ = some (.int .i64 x.a) := hcs 4 (by decide)
   have c5 : wr.cell? ⟨b, o + k * 8 + 5, none⟩ = some (.int .i64 x.r) := hcs 5 (by decide)
   have c6 : wr.cell? ⟨b, o + k * 8 + 6, none⟩ = some (.int .i64 x.t) := hcs 6 (by decide)
   have c7 : wr.cell? ⟨b, o + k * 8 + 7, none⟩ = some (.int .i64 x.y) := hcs 7 (by decide)
   have b0 : wr.cell? ⟨w.heap.size, 0, none⟩ = some (.int .i64 me) := (HK2.out.below HK.out.2 HK2.out.lt).cell 0
   have HSUC : Hid ((ys.take (k + 1)).map (amtI me) = (ys.take k).map (amtI me) ++ [amtI me x]) := by
    show _ = _
    rw [HTK.out, List.map_append]; rfl
   have HZL : Hid (((ys.take k).map (amtI me)).length ≤ 2000) := by show _ ≤ _; rw [List.length_map, List.length_take]; omega
   obtain ⟨ho1, hw1⟩ := HK.out
   obtain ⟨p2, c2, hv2⟩ := ho1.form
   generalize hz : (ys.take k).map (amtI me) = zs at *
   generalize hm : zs.length = m at *
   subst hv2
   have hm2 : m ≤ 2000 := HZL.out
   have HM := Lib.hid hm
   have HO1 := Lib.hid (ho1.alloc (.cells #[.int .i64 x.s, .int .i64 x.n, .int .i64 x.b, .int .i64 x.c, .int .i64 x.a, .int .i64 x.r, .int .i64 x.t, .int .i64 x.y] 39))
   have HBR := Lib.hid hw1
   have HSZ : Hid (W2.heap.size ≤ wr.heap.size) := hw1.size
   clear ho1 hw1 HK hz hm HTK hcs
   have b0' : (wr.alloc (.cells #[.int .i64 x.s, .int .i64 x.n, .int .i64 x.b, .int .i64 x.c, .int .i64 x.a, .int .i64 x.r, .int .i64 x.t, .int .i64 x.y] 39)).cell? ⟨w.heap.size, 0, none⟩ = some (.int .i64 me) := ((oneB wr _).cell (p := ⟨w.heap.size, 0, none⟩) (World.block_lt_of_cell? wr _ b0)).trans b0
   by_cases hs : x.s = me
   ·have e1 : (x.s == me) = true := by simpa using hs
    have HAM : Hid (amtI me x = x.a) := if_pos hs
    rw [HAM.out] at HSUC
    clear hs
    go_wp2_with (at_builtin; with_reducible refine stop_appendI (.tmp 27) (.tmp 30) 34 rfl ?_)
    refine wpList_append_row rfl (.tmp 27) (.tmp 30) 34 rfl 2 .i64 8 W2.heap.size eltA (.slice p2 m c2) (.slice (some ⟨wr.heap.size + 1, 0, none⟩) 1 1) zs [x.a] rfl rfl (HO1.out.alloc (.cells #[.int .i64 (x.a)] 2)) ⟨some ⟨wr.heap.size + 1, 0, none⟩, 1, rfl, Nat.le_refl _, .inr ⟨wr.heap.size + 1, 0, rfl, fun i hi => ?_⟩⟩ (by have := HM.out; simp; omega) (by have := HM.out; simp; omega) (by have := HSZ.out; simp at this ⊢; omega) (zs ++ [x.a]) (m + 1) rfl (by rw [List.length_append, HM.out]; rfl) ?_
    ·obtain rfl : i = 0 := by simp at hi; omega
     exact (Blk.new' (wr.alloc (.cells #[.int .i64 x.s, .int .i64 x.n, .int .i64 x.b, .int .i64 x.c, .int .i64 x.a, .int .i64 x.r, .int .i64 x.t, .int .i64 x.y] 39)) #[.int .i64 (x.a)] 2 (b := wr.heap.size + 1) (by simp)).cell 0
    intro p3 c3 w3 ho3 hb3
    have HNX : Hid (ORel W2 me ys (k + 1) (.slice p3 (m + 1) c3) w3) := ⟨by rw [HSUC.out]; exact ho3, HBR.out.trans ((((Below.refl _ wr).alloc HSZ.out _).alloc (by have := HSZ.out; simp; omega) _).trans hb3)⟩
    clear ho3 hb3
    go_wp2_with fail
    go_roundw
    case rel => exact ⟨k + 1, by omega, by go_num, HNX⟩
    case measure => simp [intOf]; omega
   ·have e1 : (x.s == me) = false := by simpa using hs
    have HAM : Hid (amtI me x = -x.a) := if_neg hs
    rw [HAM.out] at HSUC
    clear hs
    go_wp2_with (at_builtin; with_reducible refine stop_appendI (.tmp 32) (.tmp 36) 34 rfl ?_)
    refine wpList_append_row rfl (.tmp 32) (.tmp 36) 34 rfl 2 .i64 8 W2.heap.size eltA (.slice p2 m c2) (.slice (some ⟨wr.heap.size + 1, 0, none⟩) 1 1) zs [-x.a] rfl rfl (HO1.out.alloc (.cells #[.int .i64 (-x.a)] 2)) ⟨some ⟨wr.heap.size + 1, 0, none⟩, 1, rfl, Nat.le_refl _, .inr ⟨wr.heap.size + 1, 0, rfl, fun i hi => ?_⟩⟩ (by have := HM.out; simp; omega) (by have := HM.out; simp; omega) (by have := HSZ.out; simp at this ⊢; omega) (zs ++ [-x.a]) (m + 1) rfl (by rw [List.length_append, HM.out]; rfl) ?_
    ·obtain rfl : i = 0 := by simp at hi; omega
     exact (Blk.new' (wr.alloc (.cells #[.int .i64 x.s, .int .i64 x.n, .int .i64 x.b, .int .i64 x.c, .int .i64 x.a, .int .i64 x.r, .int .i64 x.t, .int .i64 x.y] 39)) #[.int .i64 (-x.a)] 2 (b := wr.heap.size + 1) (by simp)).cell 0
    intro p3 c3 w3 ho3 hb3
    have HNX : Hid (ORel W2 me ys (k + 1) (.slice p3 (m + 1) c3) w3) := ⟨by rw [HSUC.out]; exact ho3, HBR.out.trans ((((Below.refl _ wr).alloc HSZ.out _).alloc (by have := HSZ.out; simp; omega) _).trans hb3)⟩
    clear ho3 hb3
    go_wp2_with fail
    go_roundw
    case rel => exact ⟨k + 1, by omega, by go_num, HNX⟩
    case measure => simp [intOf]; omega
  ·have hle : (n : Int) ≤ (k : Int) := by omega
   have hkn : k = ys.length := by rw [HL.out]; omega
   have hK := HK.out
   rw [hkn] at hK
   unfold ORel at hK
   rw [List.take_length] at hK
   have HSM := Lib.hid (HSU.out _ _ hK.1.row)
   have HW := Lib.hid (HB2.out.trans (hK.2.mono HB2.out.size))
   clear HK hK hkn
   go_wp2_with fail
   refine HSM.out.mono ?_
   rintro y w3 ⟨rfl, rfl⟩
   rw [HS.out, HE.out]
   go_wp2_with fail
   go_ret2
   exact ⟨rfl, HW.out⟩
end Go.Proofs.Ytillckkohdjkbaa
namespace Go.Proofs.Ytillckkohdjkbaa
open Go.RowKit
/-- A slice of positions. -/
def PRow (w : World) (v : Value) (ps : List Pos) : Prop :=
 ∃ p c, v = .slice p ps.length c ∧ ps.length ≤ c ∧ (ps = [] ∨ ∃ b o, p = some ⟨b, o, none⟩ ∧ b < w.heap.size ∧ ∀ i (h : i < ps.length), w.cell? ⟨b, o + i * 3, none⟩ = some (.int .i64 ps[i].e) ∧ w.cell? ⟨b, o + i * 3 + 1, none⟩ = some (.int .i64 ps[i].c) ∧ w.cell? ⟨b, o + i * 3 + 2, none⟩ = some (.int .i64 ps[i].a))
theorem PRow.shape {w : World} {v : Value} {ps : List Pos} (h : PRow w v ps) : ∃ p c, v = .slice p ps.length c := by obtain ⟨p, c, e, _⟩ := h; exact ⟨p, c, e⟩
theorem PRow.kept {w w' : World} {v : Value} {ps : List Pos} (h : PRow w v ps) (hb : Below w.heap.size w w') : PRow w' v ps := by
 obtain ⟨p, c, rfl, hc, h⟩ := h
 refine ⟨p, c, rfl, hc, ?_⟩
 rcases h with h | ⟨b, o, rfl, hlt, h⟩
 ·exact .inl h
 ·refine .inr ⟨b, o, rfl, Nat.lt_of_lt_of_le hlt hb.size, fun i hi => ?_⟩
  obtain ⟨h1, h2, h3⟩ := h i hi
  exact ⟨(hb.cell (p := ⟨b, _, none⟩) hlt).trans h1, (hb.cell (p := ⟨b, _, none⟩) hlt).trans h2, (hb.cell (p := ⟨b, _, none⟩) hlt).trans h3⟩
theorem PRow.nil_ (w : World) : PRow w (.slice none 0 0) [] := ⟨none, 0, rfl, Nat.le_refl _, .inl rfl⟩
theorem PRow.at_ {w : World} {p : Option Addr} {n c : Nat} {ps : List Pos} (h : PRow w (.slice p n c) ps) (i : Nat) (hi : i < ps.length) : ∃ b o, p = some ⟨b, o, none⟩ ∧ b < w.heap.size ∧ w.cell? ⟨b, o + i * 3, none⟩ = some (.int .i64 ps[i].e) ∧ w.cell? ⟨b, o + i * 3 + 1, none⟩ = some (.int .i64 ps[i].c) ∧ w.cell? ⟨b, o + i * 3 + 2, none⟩ = some (.int .i64 ps[i].a) := by
 obtain ⟨p', c', e, _, h⟩ := h
 cases e
 rcases h with h | ⟨b, o, hp, hlt, h⟩
 ·subst h; simp at hi
 ·exact ⟨b, o, hp, hlt, h i hi⟩
/-- A part of it. -/
theorem PRow.take {w : World} {p : Option Addr} {n c : Nat} {ps : List Pos} (h : PRow w (.slice p n c) ps) (m : Nat) (hm : m ≤ ps.length) : PRow w (.slice p m c) (ps.take m) := by
 obtain ⟨p', c', e, hc, h⟩ := h
 cases e
 have hl : (ps.take m).length = m := by rw [List.length_take]; omega
 refine ⟨p, c, by rw [hl], by omega, ?_⟩
 rcases h with h | ⟨b, o, hp, hlt, h⟩
 ·left; rw [h]; simp
 ·refine .inr ⟨b, o, hp, hlt, fun i hi => ?_⟩
  rw [List.getElem_take]
  exact h i (by omega)
theorem PRow.drop {w : World} {b o n c : Nat} {ps : List Pos} (h : PRow w (.slice (some ⟨b, o, none⟩) n c) ps) (m : Nat) (hm : m ≤ ps.length) : PRow w (.slice (some ⟨b, o + m * 3, none⟩) (ps.length - m) (c - m)) (ps.drop m) := by
 obtain ⟨p', c', e, hc, h⟩ := h
 cases e
 have hl : (ps.drop m).length = ps.length - m := List.length_drop
 refine ⟨_, _, by rw [hl], by omega, ?_⟩
 rcases h with h | ⟨b', o', hp, hlt, h⟩
 ·left; rw [h]; simp
 ·cases hp
  refine .inr ⟨b, _, rfl, hlt, fun i hi => ?_⟩
  rw [List.getElem_drop]
  have h2 := h (m + i) (by omega)
  rw [show o + m * 3 + i * 3 = o + (m + i) * 3 by omega]
  exact h2
end Go.Proofs.Ytillckkohdjkbaa
namespace Go.Proofs.Ytillckkohdjkbaa
open Go.RowKit
set_option linter.unusedSimpArgs false in
set_option maxHeartbeats 4000000 in
set_option maxRecDepth 100000 in
theorem compare_any (e c a e' c' a' : Int) (w : World) :
  Calls Try.prog 47 #[posV e c a, posV e' c' a'] w fun x w' => x = .returned (.int .i64 (ord2 e c e' c')) ∧ Below w.heap.size w w' := by
 unfold posV
 go_enter Try.func47, Try.ntmps47
 go_wp2_with fail
 generalize hWB : (w.alloc (.cells #[.int .i64 e, .int .i64 c, .int .i64 a] 77)).alloc (.cells #[.int .i64 e', .int .i64 c', .int .i64 a'] 77) = WB
 have hB : Below w.heap.size w WB := by rw [← hWB]; exact (oneB w _).alloc (by simp) _
 have hA0 : Blk WB w.heap.size #[.int .i64 e, .int .i64 c, .int .i64 a] 77 := by rw [← hWB]; exact (Blk.new w _ _).alloc _
 have hA1 : Blk WB (w.heap.size + 1) #[.int .i64 e', .int .i64 c', .int .i64 a'] 77 := by rw [← hWB]; exact Blk.new' _ _ _ (by simp)
 have HS : Hid (∀ w', Below WB.heap.size WB w' → (w'.cell? ⟨w.heap.size, 0, none⟩ = some (.int .i64 e) ∧ w'.cell? ⟨w.heap.size, 1, none⟩ = some (.int .i64 c)) ∧ w'.cell? ⟨w.heap.size + 1, 0, none⟩ = some (.int .i64 e') ∧ w'.cell? ⟨w.heap.size + 1, 1, none⟩ = some (.int .i64 c')) :=
  fun w' h => ⟨⟨(hA0.below h hA0.lt).cell 0, (hA0.below h hA0.lt).cell 1⟩, (hA1.below h hA1.lt).cell 0, (hA1.below h hA1.lt).cell 1⟩
 have HB := Lib.hid hB
 clear hWB hB hA0 hA1
 have hS1 := HS.out WB.drew (Below.refl _ WB).drew
 refine wp_region_held_drew (S := fun w' => (w'.cell? ⟨w.heap.size, 0, none⟩ = some (.int .i64 e) ∧ w'.cell? ⟨w.heap.size, 1, none⟩ = some (.int .i64 c)) ∧ w'.cell? ⟨w.heap.size + 1, 0, none⟩ = some (.int .i64 e') ∧ w'.cell? ⟨w.heap.size + 1, 1, none⟩ = some (.int .i64 c')) (by kernel_rfl) hS1 (fun hS0 => ?_)
 refine wpAnyH_take (i := 0) (v := ?_) rfl (by kernel_rfl) (by kernel_rfl) (by kernel_rfl) (fun _ _ _ h => h) (Or.inl ⟨by kernel_rfl, ?_⟩) (by first | trivial | assumption) ?_
 rotate_left
 ·intro w hSw
  try dsimp only at hSw
  first | (go_simp; done) | (go_simp; with_reducible rfl)
 try simp only [Act.put, List.getElem_toArray, List.getElem_cons_succ, List.getElem_cons_zero, List.setIfInBounds_toArray, List.set_cons_zero, List.set_cons_succ]
 refine wpAnyH_take (i := 2) (v := ?_) rfl (by kernel_rfl) (by kernel_rfl) (by kernel_rfl) (fun _ _ _ h => h) (Or.inl ⟨by kernel_rfl, ?_⟩) (by first | trivial | assumption) ?_
 rotate_left
 ·intro w hSw
  try dsimp only at hSw
  first | (go_simp; done) | (go_simp; with_reducible rfl)
 try simp only [Act.put, List.getElem_toArray, List.getElem_cons_succ, List.getElem_cons_zero, List.setIfInBounds_toArray, List.set_cons_zero, List.set_cons_succ]
 refine wpAnyH_take (i := 5) (v := ?_) rfl (by kernel_rfl) (by kernel_rfl) (by kernel_rfl) (fun _ _ _ h => h) (Or.inl ⟨by kernel_rfl, ?_⟩) (by first | trivial | assumption) ?_
 rotate_left
 ·intro w hSw
  try dsimp only at hSw
  first | (go_simp; done) | (go_simp; with_reducible rfl)
 try simp only [Act.put, List.getElem_toArray, List.getElem_cons_succ, List.getElem_cons_zero, List.setIfInBounds_toArray, List.set_cons_zero, List.set_cons_succ]
 refine wpAnyH_take (i := 7) (v := ?_) rfl (by kernel_rfl) (by kernel_rfl) (by kernel_rfl) (fun _ _ _ h => h) (Or.inl ⟨by kernel_rfl, ?_⟩) (by first | trivial | assumption) ?_
 rotate_left
 ·intro w hSw
  try dsimp only at hSw
  first | (go_simp; done) | (go_simp; with_reducible rfl)
 try simp only [Act.put, List.getElem_toArray, List.getElem_cons_succ, List.getElem_cons_zero, List.setIfInBounds_toArray, List.set_cons_zero, List.set_cons_succ]
 refine wpAnyH_take (i := 1) (v := ?_) rfl (by kernel_rfl) (by kernel_rfl) (by kernel_rfl) (fun _ _ _ h => h) (Or.inl ⟨by kernel_rfl, ?_⟩) (by first | trivial | assumption) ?_
 rotate_left
 ·intro w hSw
  try dsimp only at hSw
  first | (go_simp; done) | (go_simp; with_reducible rfl)
 try simp only [Act.put, List.getElem_toArray, List.getElem_cons_succ, List.getElem_cons_zero, List.setIfInBounds_toArray, List.set_cons_zero, List.set_cons_succ]
 refine wpAnyH_take (i := 3) (v := ?_) rfl (by kernel_rfl) (by kernel_rfl) (by kernel_rfl) (fun _ _ _ h => h) (Or.inl ⟨by kernel_rfl, ?_⟩) (by first | trivial | assumption) ?_
 rotate_left
 ·intro w hSw
  try dsimp only at hSw
  first | (go_simp; done) | (go_simp; with_reducible rfl)
 try simp only [Act.put, List.getElem_toArray, List.getElem_cons_succ, List.getElem_cons_zero, List.setIfInBounds_toArray, List.set_cons_zero, List.set_cons_succ]
 refine wpAnyH_take (i := 6) (v := ?_) rfl (by kernel_rfl) (by kernel_rfl) (by kernel_rfl) (fun _ _ _ h => h) (Or.inl ⟨by kernel_rfl, ?_⟩) (by first | trivial | assumption) ?_
 rotate_left
 ·intro w hSw
  try dsimp only at hSw
  first | (go_simp; done) | (go_simp; with_reducible rfl)
 try simp only [Act.put, List.getElem_toArray, List.getElem_cons_succ, List.getElem_cons_zero, List.setIfInBounds_toArray, List.set_cons_zero, List.set_cons_succ]
 refine wpAnyH_take (i := 8) (v := ?_) rfl (by kernel_rfl) (by kernel_rfl) (by kernel_rfl) (fun _ _ _ h => h) (Or.inl ⟨by kernel_rfl, ?_⟩) (by first | trivial | assumption) ?_
 rotate_left
 ·intro w hSw
  try dsimp only at hSw
  first | (go_simp; done) | (go_simp; with_reducible rfl)
 try simp only [Act.put, List.getElem_toArray, List.getElem_cons_succ, List.getElem_cons_zero, List.setIfInBounds_toArray, List.set_cons_zero, List.set_cons_succ]
 refine rdq 4 (fun K hK => ?_)
 go_simp
 go_at_call 51
 refine (cmp_any e e' WB.drew).mono ?_
 rintro y w1 ⟨rfl, rfl⟩
 try go_wp2_with fail
 refine hK.out _ _ hS1 (fun hS => ?_)
 clear hK K
 try simp only [Act.put, List.getElem_toArray, List.getElem_cons_succ, List.getElem_cons_zero, List.setIfInBounds_toArray, List.set_cons_zero, List.set_cons_succ]
 refine rdq 9 (fun K hK => ?_)
 go_simp
 go_at_call 51
 refine (cmp_any c c' WB.drew).mono ?_
 rintro y w1 ⟨rfl, rfl⟩
 try go_wp2_with fail
 refine hK.out _ _ hS1 (fun hS => ?_)
 clear hK K
 try simp only [Act.put, List.getElem_toArray, List.getElem_cons_succ, List.getElem_cons_zero, List.setIfInBounds_toArray, List.set_cons_zero, List.set_cons_succ]
 refine rdq 10 (fun K hK => ?_)
 go_simp
 have hS2 := HS.out (WB.drew.alloc (.cells #[.int .i64 (ord e e'), .int .i64 (ord c c')] 3)) ((Below.refl _ WB).drew.alloc (Nat.le_refl _) _)
 refine hK.out _ _ hS2 (fun hS => ?_)
 clear hK K
 try simp only [Act.put, List.getElem_toArray, List.getElem_cons_succ, List.getElem_cons_zero, List.setIfInBounds_toArray, List.set_cons_zero, List.set_cons_succ]
 refine rdq 11 (fun K hK => ?_)
 go_simp
 go_at_call 50
 refine (or_any (ord e e') (ord c c') _ _ (Blk.new' WB.drew _ _ rfl)).mono ?_
 rintro y w1 ⟨rfl, rfl⟩
 rw [show (if ord e e' = 0 then ord c c' else ord e e') = ord2 e c e' c' from rfl]
 try go_wp2_with fail
 refine hK.out _ _ hS2 (fun hS => ?_)
 clear hK K
 try simp only [Act.put, List.getElem_toArray, List.getElem_cons_succ, List.getElem_cons_zero, List.setIfInBounds_toArray, List.set_cons_zero, List.set_cons_succ]
 refine wpAnyH_take (i := 12) (v := ?_) rfl (by kernel_rfl) (by kernel_rfl) (by kernel_rfl) (fun _ _ _ h => h) (Or.inl ⟨by kernel_rfl, ?_⟩) (by first | trivial | assumption) ?_
 rotate_left
 ·intro w hSw
  try dsimp only at hSw
  first | (go_simp; done) | (go_simp; with_reducible rfl)
 try simp only [Act.put, List.getElem_toArray, List.getElem_cons_succ, List.getElem_cons_zero, List.setIfInBounds_toArray, List.set_cons_zero, List.set_cons_succ]
 refine wpAnyH_done (by kernel_rfl) ?_ _
 go_wp2_with fail
 go_ret
 exact ⟨rfl, HB.out.drew.alloc HB.out.size _⟩
end Go.Proofs.Ytillckkohdjkbaa
namespace Go.Proofs.Ytillckkohdjkbaa
open Go.RowKit
theorem ord2_neg {p t : Pos} : (ord2 p.e p.c t.e t.c < 0) ↔ ordP p t < 0 := Iff.rfl
set_option linter.unusedSimpArgs false in
set_option maxHeartbeats 4000000 in
set_option maxRecDepth 100000 in
theorem search_any (w : World) (v : Value) (ps A mid B : List Pos) (t : Pos) (hr : PRow w v ps) (hA : Around t ps A mid B) (hn : ps.length ≤ 1000) :
  Calls Try.prog 46 #[v, posV t.e t.c t.a, .func (.func 47) #[] #[]] w fun x w' => x = .returned (.tuple #[.int .i64 A.length, .bool (decide (mid ≠ []))]) ∧ Below w.heap.size w w' := by
 obtain ⟨p, c, rfl⟩ := hr.shape
 have HR := Lib.hid hr
 have HA := Lib.hid hA
 have hAl := hA.le
 clear hr hA
 unfold posV
 go_enter Try.func46, Try.ntmps46
 go_wp2_with fail
 generalize hW1 : w.alloc (.cells #[.int .i64 t.e, .int .i64 t.c, .int .i64 t.a] 77) = W1
 have hB1 : Below w.heap.size w W1 := by rw [← hW1]; exact oneB w _
 have hT1 : Blk W1 w.heap.size #[.int .i64 t.e, .int .i64 t.c, .int .i64 t.a] 77 := by rw [← hW1]; exact Blk.new w _ _
 have HB1 := Lib.hid hB1
 have HT1 := Lib.hid hT1
 have HR1 := Lib.hid (HR.out.kept hB1)
 clear hW1 hB1 hT1
 go_loopw [9, 10] (fun vi vj wr => ∃ i j : Nat, vi = .int .i64 i ∧ vj = .int .i64 j ∧ i ≤ A.length ∧ A.length ≤ j ∧ j ≤ ps.length ∧ Hid (Below W1.heap.size W1 wr)) (fun vi vj _ => (intOf vj).toNat - (intOf vi).toNat)
 case atStart => exact ⟨0, ps.length, rfl, rfl, Nat.zero_le _, hAl, Nat.le_refl _, Lib.hid (Below.refl W1.heap.size W1)⟩
 case round =>
  obtain ⟨i, j, rfl, rfl, hi, hj, hjn, HB⟩ := hrel
  by_cases hlt : (i : Int) < (j : Int)
  ·have hm : (i + j) / 2 < ps.length := by omega
   obtain ⟨b, o, rfl, hbl, c0, c1, c2⟩ := (HR1.out.kept HB.out).at_ ((i + j) / 2) hm
   have hT := HT1.out.below HB.out HT1.out.lt
   have hTl := hT.lt
   have t0 : wr.cell? ⟨w.heap.size, 0, none⟩ = some (.int .i64 t.e) := hT.cell 0
   have t1 : wr.cell? ⟨w.heap.size, 1, none⟩ = some (.int .i64 t.c) := hT.cell 1
   have t2 : wr.cell? ⟨w.heap.size, 2, none⟩ = some (.int .i64 t.a) := hT.cell 2
   generalize hx0 : ps[((i + j) / 2)].e = x0 at c0
   generalize hx1 : ps[((i + j) / 2)].c = x1 at c1
   generalize hx2 : ps[((i + j) / 2)].a = x2 at c2
   have hiff := HA.out.lt_iff ((i + j) / 2) hm
   have hM : ((i : Int) + (j : Int)) / 2 = (((i + j) / 2 : Nat) : Int) := by omega
   have him : i ≤ (i + j) / 2 := by omega
   have hmj : (i + j) / 2 < j := by omega
   unfold ordP at hiff
   rw [hx0, hx1] at hiff
   clear hx0 hx1 hx2 hT
   have HM := Lib.hid hM
   clear hM
   generalize (i + j) / 2 = m at *
   have hS1 : wr.drew.cell? ⟨b, o + m * 3, none⟩ = some (.int .i64 x0) ∧ wr.drew.cell? ⟨b, o + m * 3 + 1, none⟩ = some (.int .i64 x1) ∧ wr.drew.cell? ⟨b, o + m * 3 + 2, none⟩ = some (.int .i64 x2) ∧ wr.drew.cell? ⟨w.heap.size, 0, none⟩ = some (.int .i64 t.e) ∧ wr.drew.cell? ⟨w.heap.size, 1, none⟩ = some (.int .i64 t.c) ∧ wr.drew.cell? ⟨w.heap.size, 2, none⟩ = some (.int .i64 t.a) := ⟨c0, c1, c2, t0, t1, t2⟩
   have HS : Hid (∀ w', Below wr.heap.size wr w' → w'.cell? ⟨b, o + m * 3, none⟩ = some (.int .i64 x0) ∧ w'.cell? ⟨b, o + m * 3 + 1, none⟩ = some (.int .i64 x1) ∧ w'.cell? ⟨b, o + m * 3 + 2, none⟩ = some (.int .i64 x2) ∧ w'.cell? ⟨w.heap.size, 0, none⟩ = some (.int .i64 t.e) ∧ w'.cell? ⟨w.heap.size, 1, none⟩ = some (.int .i64 t.c) ∧ w'.cell? ⟨w.heap.size, 2, none⟩ = some (.int .i64 t.a)) :=
    fun w' h => ⟨(h.cell (p := ⟨b, _, none⟩) hbl).trans c0, (h.cell (p := ⟨b, _, none⟩) hbl).trans c1, (h.cell (p := ⟨b, _, none⟩) hbl).trans c2, (h.cell (p := ⟨w.heap.size, 0, none⟩) hTl).trans t0, (h.cell (p := ⟨w.heap.size, 1, none⟩) hTl).trans t1, (h.cell (p := ⟨w.heap.size, 2, none⟩) hTl).trans t2⟩
   have HBW := Lib.hid HB.out.size
   have HIFF := Lib.hid hiff
   clear hiff
   go_wp2_with fail
   rw [HM.out]
   refine wp_region_held_drew (S := fun w' => w'.cell? ⟨b, o + m * 3, none⟩ = some (.int .i64 x0) ∧ w'.cell? ⟨b, o + m * 3 + 1, none⟩ = some (.int .i64 x1) ∧ w'.cell? ⟨b, o + m * 3 + 2, none⟩ = some (.int .i64 x2) ∧ w'.cell? ⟨w.heap.size, 0, none⟩ = some (.int .i64 t.e) ∧ w'.cell? ⟨w.heap.size, 1, none⟩ = some (.int .i64 t.c) ∧ w'.cell? ⟨w.heap.size, 2, none⟩ = some (.int .i64 t.a)) (by kernel_rfl) hS1 (fun hS0 => ?_)
   refine wpAnyH_take (i := 0) (v := ?_) rfl (by kernel_rfl) (by kernel_rfl) (by kernel_rfl) (fun _ _ _ h => h) (Or.inl ⟨by kernel_rfl, ?_⟩) (by first | trivial | assumption) ?_
   rotate_left
   ·intro w hSw
    try dsimp only at hSw
    first | (go_simp; done) | (go_simp; with_reducible rfl)
   try simp only [Act.put, List.getElem_toArray, List.getElem_cons_succ, List.getElem_cons_zero, List.setIfInBounds_toArray, List.set_cons_zero, List.set_cons_succ]
   refine wpAnyH_take (i := 1) (v := ?_) rfl (by kernel_rfl) (by kernel_rfl) (by kernel_rfl) (fun _ _ _ h => h) (Or.inl ⟨by kernel_rfl, ?_⟩) (by first | trivial | assumption) ?_
   rotate_left
   ·intro w hSw
    try dsimp only at hSw
    first | (go_simp; done) | (go_simp; with_reducible rfl)
   try simp only [Act.put, List.getElem_toArray, List.getElem_cons_succ, List.getElem_cons_zero, List.setIfInBounds_toArray, List.set_cons_zero, List.set_cons_succ]
   refine wpAnyH_take (i := 2) (v := ?_) rfl (by kernel_rfl) (by kernel_rfl) (by kernel_rfl) (fun _ _ _ h => h) (Or.inl ⟨by kernel_rfl, ?_⟩) (by first | trivial | assumption) ?_
   rotate_left
   ·intro w hSw
    try dsimp only at hSw
    first | (go_simp; done) | (go_simp; with_reducible rfl)
   try simp only [Act.put, List.getElem_toArray, List.getElem_cons_succ, List.getElem_cons_zero, List.setIfInBounds_toArray, List.set_cons_zero, List.set_cons_succ]
   refine wpAnyH_take (i := 3) (v := ?_) rfl (by kernel_rfl) (by kernel_rfl) (by kernel_rfl) (fun _ _ _ h => h) (Or.inl ⟨by kernel_rfl, ?_⟩) (by first | trivial | assumption) ?_
   rotate_left
   ·intro w hSw
    try dsimp only at hSw
    first | (go_simp; done) | (go_simp; with_reducible rfl)
   try simp only [Act.put, List.getElem_toArray, List.getElem_cons_succ, List.getElem_cons_zero, List.setIfInBounds_toArray, List.set_cons_zero, List.set_cons_succ]
   refine wpAnyH_take (i := 4) (v := ?_) rfl (by kernel_rfl) (by kernel_rfl) (by kernel_rfl) (fun _ _ _ h => h) (Or.inl ⟨by kernel_rfl, ?_⟩) (by first | trivial | assumption) ?_
   rotate_left
   ·intro w hSw
    try dsimp only at hSw
    first | (go_simp; done) | (go_simp; with_reducible rfl)
   try simp only [Act.put, List.getElem_toArray, List.getElem_cons_succ, List.getElem_cons_zero, List.setIfInBounds_toArray, List.set_cons_zero, List.set_cons_succ]
   refine wpAnyH_take (i := 5) (v := ?_) rfl (by kernel_rfl) (by kernel_rfl) (by kernel_rfl) (fun _ _ _ h => h) (Or.inl ⟨by kernel_rfl, ?_⟩) (by first | trivial | assumption) ?_
   rotate_left
   ·intro w hSw
    try dsimp only at hSw
    first | (go_simp; done) | (go_simp; with_reducible rfl)
   try simp only [Act.put, List.getElem_toArray, List.getElem_cons_succ, List.getElem_cons_zero, List.setIfInBounds_toArray, List.set_cons_zero, List.set_cons_succ]
   refine rdq 6 (fun K hK => ?_)
   go_simp
   go_at_call 47
   refine (compare_any x0 x1 x2 t.e t.c t.a wr.drew).mono ?_
   rintro y w2 ⟨rfl, hb2⟩
   have HB2 := Lib.hid ((Below.refl wr.heap.size wr).drew.trans (hb2.mono (Nat.le_refl _)))
   clear hb2
   try go_wp2_with fail
   refine hK.out _ _ (HS.out w2 HB2.out) (fun hS => ?_)
   clear hK K
   try simp only [Act.put, List.getElem_toArray, List.getElem_cons_succ, List.getElem_cons_zero, List.setIfInBounds_toArray, List.set_cons_zero, List.set_cons_succ]
   refine wpAnyH_take (i := 7) (v := ?_) rfl (by kernel_rfl) (by kernel_rfl) (by kernel_rfl) (fun _ _ _ h => h) (Or.inl ⟨by kernel_rfl, ?_⟩) (by first | trivial | assumption) ?_
   rotate_left
   ·intro w hSw
    try dsimp only at hSw
    first | (go_simp; done) | (go_simp; with_reducible rfl)
   try simp only [Act.put, List.getElem_toArray, List.getElem_cons_succ, List.getElem_cons_zero, List.setIfInBounds_toArray, List.set_cons_zero, List.set_cons_succ]
   refine wpAnyH_done (by kernel_rfl) ?_ _
   by_cases hc : ord2 x0 x1 t.e t.c < 0
   ·have hmA := HIFF.out.1 hc
    have HBN := Lib.hid (HB.out.trans (HB2.out.mono HBW.out))
    go_wp2_with fail
    go_roundw
    case rel => exact ⟨m + 1, j, by go_num, rfl, by omega, hj, hjn, HBN⟩
    case measure => simp [intOf]; omega
   ·have hmA : ¬ m < A.length := fun h => hc (HIFF.out.2 h)
    have HBN := Lib.hid (HB.out.trans (HB2.out.mono HBW.out))
    go_wp2_with fail
    go_roundw
    case rel => exact ⟨i, m, rfl, rfl, hi, by omega, by omega, HBN⟩
    case measure => simp [intOf]; omega
  ·obtain rfl : i = A.length := by omega
   by_cases hm : A.length < ps.length
   ·have hnm : ((A.length : Nat) : Int) < (ps.length : Int) := by omega
    obtain ⟨b, o, rfl, hbl, c0, c1, c2⟩ := (HR1.out.kept HB.out).at_ A.length hm
    have hT := HT1.out.below HB.out HT1.out.lt
    have hTl := hT.lt
    have t0 : wr.cell? ⟨w.heap.size, 0, none⟩ = some (.int .i64 t.e) := hT.cell 0
    have t1 : wr.cell? ⟨w.heap.size, 1, none⟩ = some (.int .i64 t.c) := hT.cell 1
    have t2 : wr.cell? ⟨w.heap.size, 2, none⟩ = some (.int .i64 t.a) := hT.cell 2
    generalize hx0 : ps[A.length].e = x0 at c0
    generalize hx1 : ps[A.length].c = x1 at c1
    generalize hx2 : ps[A.length].a = x2 at c2
    have hiff := HA.out.found hm
    unfold ordP at hiff
    rw [hx0, hx1] at hiff
    clear hx0 hx1 hx2 hT
    have HFD : Hid ((ord2 x0 x1 t.e t.c == 0) = decide (mid ≠ [])) := by show _ = _; rw [Bool.eq_iff_iff]; simp [hiff]
    clear hiff
    have hS1 : wr.drew.cell? ⟨b, o + A.length * 3, none⟩ = some (.int .i64 x0) ∧ wr.drew.cell? ⟨b, o + A.length * 3 + 1, none⟩ = some (.int .i64 x1) ∧ wr.drew.cell? ⟨b, o + A.length * 3 + 2, none⟩ = some (.int .i64 x2) ∧ wr.drew.cell? ⟨w.heap.size, 0, none⟩ = some (.int .i64 t.e) ∧ wr.drew.cell? ⟨w.heap.size, 1, none⟩ = some (.int .i64 t.c) ∧ wr.drew.cell? ⟨w.heap.size, 2, none⟩ = some (.int .i64 t.a) := ⟨c0, c1, c2, t0, t1, t2⟩
    have HS : Hid (∀ w', Below wr.heap.size wr w' → w'.cell? ⟨b, o + A.length * 3, none⟩ = some (.int .i64 x0) ∧ w'.cell? ⟨b, o + A.length * 3 + 1, none⟩ = some (.int .i64 x1) ∧ w'.cell? ⟨b, o + A.length * 3 + 2, none⟩ = some (.int .i64 x2) ∧ w'.cell? ⟨w.heap.size, 0, none⟩ = some (.int .i64 t.e) ∧ w'.cell? ⟨w.heap.size, 1, none⟩ = some (.int .i64 t.c) ∧ w'.cell? ⟨w.heap.size, 2, none⟩ = some (.int .i64 t.a)) :=
     fun w' h => ⟨(h.cell (p := ⟨b, _, none⟩) hbl).trans c0, (h.cell (p := ⟨b, _, none⟩) hbl).trans c1, (h.cell (p := ⟨b, _, none⟩) hbl).trans c2, (h.cell (p := ⟨w.heap.size, 0, none⟩) hTl).trans t0, (h.cell (p := ⟨w.heap.size, 1, none⟩) hTl).trans t1, (h.cell (p := ⟨w.heap.size, 2, none⟩) hTl).trans t2⟩
    have HBW := Lib.hid HB.out.size
    go_wp2_with fail
    refine wp_region_held_drew (S := fun w' => w'.cell? ⟨b, o + A.length * 3, none⟩ = some (.int .i64 x0) ∧ w'.cell? ⟨b, o + A.length * 3 + 1, none⟩ = some (.int .i64 x1) ∧ w'.cell? ⟨b, o + A.length * 3 + 2, none⟩ = some (.int .i64 x2) ∧ w'.cell? ⟨w.heap.size, 0, none⟩ = some (.int .i64 t.e) ∧ w'.cell? ⟨w.heap.size, 1, none⟩ = some (.int .i64 t.c) ∧ w'.cell? ⟨w.heap.size, 2, none⟩ = some (.int .i64 t.a)) (by kernel_rfl) hS1 (fun hS0 => ?_)
    refine wpAnyH_take (i := 0) (v := ?_) rfl (by kernel_rfl) (by kernel_rfl) (by kernel_rfl) (fun _ _ _ h => h) (Or.inl ⟨by kernel_rfl, ?_⟩) (by first | trivial | assumption) ?_
    rotate_left
    ·intro w hSw
     try dsimp only at hSw
     first | (go_simp; done) | (go_simp; with_reducible rfl)
    try simp only [Act.put, List.getElem_toArray, List.getElem_cons_succ, List.getElem_cons_zero, List.setIfInBounds_toArray, List.set_cons_zero, List.set_cons_succ]
    refine wpAnyH_take (i := 1) (v := ?_) rfl (by kernel_rfl) (by kernel_rfl) (by kernel_rfl) (fun _ _ _ h => h) (Or.inl ⟨by kernel_rfl, ?_⟩) (by first | trivial | assumption) ?_
    rotate_left
    ·intro w hSw
     try dsimp only at hSw
     first | (go_simp; done) | (go_simp; with_reducible rfl)
    try simp only [Act.put, List.getElem_toArray, List.getElem_cons_succ, List.getElem_cons_zero, List.setIfInBounds_toArray, List.set_cons_zero, List.set_cons_succ]
    refine wpAnyH_take (i := 2) (v := ?_) rfl (by kernel_rfl) (by kernel_rfl) (by kernel_rfl) (fun _ _ _ h => h) (Or.inl ⟨by kernel_rfl, ?_⟩) (by first | trivial | assumption) ?_
    rotate_left
    ·intro w hSw
     try dsimp only at hSw
     first | (go_simp; done) | (go_simp; with_reducible rfl)
    try simp only [Act.put, List.getElem_toArray, List.getElem_cons_succ, List.getElem_cons_zero, List.setIfInBounds_toArray, List.set_cons_zero, List.set_cons_succ]
    refine wpAnyH_take (i := 3) (v := ?_) rfl (by kernel_rfl) (by kernel_rfl) (by kernel_rfl) (fun _ _ _ h => h) (Or.inl ⟨by kernel_rfl, ?_⟩) (by first | trivial | assumption) ?_
    rotate_left
    ·intro w hSw
     try dsimp only at hSw
     first | (go_simp; done) | (go_simp; with_reducible rfl)
    try simp only [Act.put, List.getElem_toArray, List.getElem_cons_succ, List.getElem_cons_zero, List.setIfInBounds_toArray, List.set_cons_zero, List.set_cons_succ]
    refine wpAnyH_take (i := 4) (v := ?_) rfl (by kernel_rfl) (by kernel_rfl) (by kernel_rfl) (fun _ _ _ h => h) (Or.inl ⟨by kernel_rfl, ?_⟩) (by first | trivial | assumption) ?_
    rotate_left
    ·intro w hSw
     try dsimp only at hSw
     first | (go_simp; done) | (go_simp; with_reducible rfl)
    try simp only [Act.put, List.getElem_toArray, List.getElem_cons_succ, List.getElem_cons_zero, List.setIfInBounds_toArray, List.set_cons_zero, List.set_cons_succ]
    refine wpAnyH_take (i := 5) (v := ?_) rfl (by kernel_rfl) (by kernel_rfl) (by kernel_rfl) (fun _ _ _ h => h) (Or.inl ⟨by kernel_rfl, ?_⟩) (by first | trivial | assumption) ?_
    rotate_left
    ·intro w hSw
     try dsimp only at hSw
     first | (go_simp; done) | (go_simp; with_reducible rfl)
    try simp only [Act.put, List.getElem_toArray, List.getElem_cons_succ, List.getElem_cons_zero, List.setIfInBounds_toArray, List.set_cons_zero, List.set_cons_succ]
    refine wpAnyH_take (i := 6) (v := ?_) rfl (by kernel_rfl) (by kernel_rfl) (by kernel_rfl) (fun _ _ _ h => h) (Or.inl ⟨by kernel_rfl, ?_⟩) (by first | trivial | assumption) ?_
    rotate_left
    ·intro w hSw
     try dsimp only at hSw
     first | (go_simp; done) | (go_simp; with_reducible rfl)
    try simp only [Act.put, List.getElem_toArray, List.getElem_cons_succ, List.getElem_cons_zero, List.setIfInBounds_toArray, List.set_cons_zero, List.set_cons_succ]
    refine wpAnyH_take (i := 7) (v := ?_) rfl (by kernel_rfl) (by kernel_rfl) (by kernel_rfl) (fun _ _ _ h => h) (Or.inl ⟨by kernel_rfl, ?_⟩) (by first | trivial | assumption) ?_
    rotate_left
    ·intro w hSw
     try dsimp only at hSw
     first | (go_simp; done) | (go_simp; with_reducible rfl)
    try simp only [Act.put, List.getElem_toArray, List.getElem_cons_succ, List.getElem_cons_zero, List.setIfInBounds_toArray, List.set_cons_zero, List.set_cons_succ]
    refine wpAnyH_take (i := 8) (v := ?_) rfl (by kernel_rfl) (by kernel_rfl) (by kernel_rfl) (fun _ _ _ h => h) (Or.inl ⟨by kernel_rfl, ?_⟩) (by first | trivial | assumption) ?_
    rotate_left
    ·intro w hSw
     try dsimp only at hSw
     first | (go_simp; done) | (go_simp; with_reducible rfl)
    try simp only [Act.put, List.getElem_toArray, List.getElem_cons_succ, List.getElem_cons_zero, List.setIfInBounds_toArray, List.set_cons_zero, List.set_cons_succ]
    refine wpAnyH_take (i := 9) (v := ?_) rfl (by kernel_rfl) (by kernel_rfl) (by kernel_rfl) (fun _ _ _ h => h) (Or.inl ⟨by kernel_rfl, ?_⟩) (by first | trivial | assumption) ?_
    rotate_left
    ·intro w hSw
     try dsimp only at hSw
     first | (go_simp; done) | (go_simp; with_reducible rfl)
    try simp only [Act.put, List.getElem_toArray, List.getElem_cons_succ, List.getElem_cons_zero, List.setIfInBounds_toArray, List.set_cons_zero, List.set_cons_succ]
    refine wpAnyH_take (i := 10) (v := ?_) rfl (by kernel_rfl) (by kernel_rfl) (by kernel_rfl) (fun _ _ _ h => h) (Or.inl ⟨by kernel_rfl, ?_⟩) (by first | trivial | assumption) ?_
    rotate_left
    ·intro w hSw
     try dsimp only at hSw
     first | (go_simp; done) | (go_simp; with_reducible rfl)
    try simp only [Act.put, List.getElem_toArray, List.getElem_cons_succ, List.getElem_cons_zero, List.setIfInBounds_toArray, List.set_cons_zero, List.set_cons_succ]
    refine rdq 11 (fun K hK => ?_)
    go_simp
    go_at_call 47
    refine (compare_any x0 x1 x2 t.e t.c t.a wr.drew).mono ?_
    rintro y w2 ⟨rfl, hb2⟩
    have HB2 := Lib.hid ((Below.refl wr.heap.size wr).drew.trans (hb2.mono (Nat.le_refl _)))
    clear hb2
    try go_wp2_with fail
    refine hK.out _ _ (HS.out w2 HB2.out) (fun hS => ?_)
    clear hK K
    try simp only [Act.put, List.getElem_toArray, List.getElem_cons_succ, List.getElem_cons_zero, List.setIfInBounds_toArray, List.set_cons_zero, List.set_cons_succ]
    refine wpAnyH_take (i := 12) (v := ?_) rfl (by kernel_rfl) (by kernel_rfl) (by kernel_rfl) (fun _ _ _ h => h) (Or.inl ⟨by kernel_rfl, ?_⟩) (by first | trivial | assumption) ?_
    rotate_left
    ·intro w hSw
     try dsimp only at hSw
     first | (go_simp; done) | (go_simp; with_reducible rfl)
    try simp only [Act.put, List.getElem_toArray, List.getElem_cons_succ, List.getElem_cons_zero, List.setIfInBounds_toArray, List.set_cons_zero, List.set_cons_succ]
    refine wpAnyH_take (i := 13) (v := ?_) rfl (by kernel_rfl) (by kernel_rfl) (by kernel_rfl) (fun _ _ _ h => h) (Or.inl ⟨by kernel_rfl, ?_⟩) (by first | trivial | assumption) ?_
    rotate_left
    ·intro w hSw
     try dsimp only at hSw
     first | (go_simp; done) | (go_simp; with_reducible rfl)
    try simp only [Act.put, List.getElem_toArray, List.getElem_cons_succ, List.getElem_cons_zero, List.setIfInBounds_toArray, List.set_cons_zero, List.set_cons_succ]
    refine wpAnyH_take (i := 14) (v := ?_) rfl (by kernel_rfl) (by kernel_rfl) (by kernel_rfl) (fun _ _ _ h => h) (Or.inl ⟨by kernel_rfl, ?_⟩) (by first | trivial | assumption) ?_
    rotate_left
    ·intro w hSw
     try dsimp only at hSw
     first | (go_simp; done) | (go_simp; with_reducible rfl)
    try simp only [Act.put, List.getElem_toArray, List.getElem_cons_succ, List.getElem_cons_zero, List.setIfInBounds_toArray, List.set_cons_zero, List.set_cons_succ]
    refine wpAnyH_take (i := 15) (v := ?_) rfl (by kernel_rfl) (by kernel_rfl) (by kernel_rfl) (fun _ _ _ h => h) (Or.inl ⟨by kernel_rfl, ?_⟩) (by first | trivial | assumption) ?_
    rotate_left
    ·intro w hSw
     try dsimp only at hSw
     first | (go_simp; done) | (go_simp; with_reducible rfl)
    try simp only [Act.put, List.getElem_toArray, List.getElem_cons_succ, List.getElem_cons_zero, List.setIfInBounds_toArray, List.set_cons_zero, List.set_cons_succ]
    refine wpAnyH_done (by kernel_rfl) ?_ _
    rw [HFD.out]
    go_wp2_with fail
    go_ret2
    exact ⟨rfl, HB1.out.trans ((HB.out.trans (HB2.out.mono HBW.out)).mono HB1.out.size)⟩
   ·have hnm : ¬ ((A.length : Nat) : Int) < (ps.length : Int) := by omega
    have hmid := HA.out.notFound hm
    have HFD : Hid (decide (mid ≠ []) = false) := by show _ = _; rw [hmid]; simp
    clear hmid
    go_wp2_with fail
    refine wp_region_held_drew (S := fun w' => True) (by kernel_rfl) trivial (fun hS0 => ?_)
    refine wpAnyH_take (i := 0) (v := ?_) rfl (by kernel_rfl) (by kernel_rfl) (by kernel_rfl) (fun _ _ _ h => h) (Or.inl ⟨by kernel_rfl, ?_⟩) (by first | trivial | assumption) ?_
    rotate_left
    ·intro w hSw
     try dsimp only at hSw
     first | (go_simp; done) | (go_simp; with_reducible rfl)
    try simp only [Act.put, List.getElem_toArray, List.getElem_cons_succ, List.getElem_cons_zero, List.setIfInBounds_toArray, List.set_cons_zero, List.set_cons_succ]
    refine wpAnyH_take (i := 1) (v := ?_) rfl (by kernel_rfl) (by kernel_rfl) (by kernel_rfl) (fun _ _ _ h => h) (Or.inl ⟨by kernel_rfl, ?_⟩) (by first | trivial | assumption) ?_
    rotate_left
    ·intro w hSw
     try dsimp only at hSw
     first | (go_simp; done) | (go_simp; with_reducible rfl)
    try simp only [Act.put, List.getElem_toArray, List.getElem_cons_succ, List.getElem_cons_zero, List.setIfInBounds_toArray, List.set_cons_zero, List.set_cons_succ]
    refine wpAnyH_take (i := 2) (v := ?_) rfl (by kernel_rfl) (by kernel_rfl) (by kernel_rfl) (fun _ _ _ h => h) (Or.inl ⟨by kernel_rfl, ?_⟩) (by first | trivial | assumption) ?_
    rotate_left
    ·intro w hSw
     try dsimp only at hSw
     first | (go_simp; done) | (go_simp; with_reducible rfl)
    try simp only [Act.put, List.getElem_toArray, List.getElem_cons_succ, List.getElem_cons_zero, List.setIfInBounds_toArray, List.set_cons_zero, List.set_cons_succ]
    refine wpAnyH_take (i := 3) (v := ?_) rfl (by kernel_rfl) (by kernel_rfl) (by kernel_rfl) (fun _ _ _ h => h) (Or.inl ⟨by kernel_rfl, ?_⟩) (by first | trivial | assumption) ?_
    rotate_left
    ·intro w hSw
     try dsimp only at hSw
     first | (go_simp; done) | (go_simp; with_reducible rfl)
    try simp only [Act.put, List.getElem_toArray, List.getElem_cons_succ, List.getElem_cons_zero, List.setIfInBounds_toArray, List.set_cons_zero, List.set_cons_succ]
    refine wpAnyH_take (i := 4) (v := ?_) rfl (by kernel_rfl) (by kernel_rfl) (by kernel_rfl) (fun _ _ _ h => h) (Or.inl ⟨by kernel_rfl, ?_⟩) (by first | trivial | assumption) ?_
    rotate_left
    ·intro w hSw
     try dsimp only at hSw
     first | (go_simp; done) | (go_simp; with_reducible rfl)
    try simp only [Act.put, List.getElem_toArray, List.getElem_cons_succ, List.getElem_cons_zero, List.setIfInBounds_toArray, List.set_cons_zero, List.set_cons_succ]
    refine wpAnyH_take (i := 5) (v := undef) rfl (by kernel_rfl) (by kernel_rfl) (by kernel_rfl) (fun _ _ _ h => h) (Or.inr ⟨by kernel_rfl, rfl⟩) (by first | trivial | assumption) ?_
    try simp only [Act.put, List.getElem_toArray, List.getElem_cons_succ, List.getElem_cons_zero, List.setIfInBounds_toArray, List.set_cons_zero, List.set_cons_succ]
    refine wpAnyH_take (i := 6) (v := undef) rfl (by kernel_rfl) (by kernel_rfl) (by kernel_rfl) (fun _ _ _ h => h) (Or.inr ⟨by kernel_rfl, rfl⟩) (by first | trivial | assumption) ?_
    try simp only [Act.put, List.getElem_toArray, List.getElem_cons_succ, List.getElem_cons_zero, List.setIfInBounds_toArray, List.set_cons_zero, List.set_cons_succ]
    refine wpAnyH_take (i := 7) (v := undef) rfl (by kernel_rfl) (by kernel_rfl) (by kernel_rfl) (fun _ _ _ h => h) (Or.inr ⟨by kernel_rfl, rfl⟩) (by first | trivial | assumption) ?_
    try simp only [Act.put, List.getElem_toArray, List.getElem_cons_succ, List.getElem_cons_zero, List.setIfInBounds_toArray, List.set_cons_zero, List.set_cons_succ]
    refine wpAnyH_take (i := 8) (v := undef) rfl (by kernel_rfl) (by kernel_rfl) (by kernel_rfl) (fun _ _ _ h => h) (Or.inr ⟨by kernel_rfl, rfl⟩) (by first | trivial | assumption) ?_
    try simp only [Act.put, List.getElem_toArray, List.getElem_cons_succ, List.getElem_cons_zero, List.setIfInBounds_toArray, List.set_cons_zero, List.set_cons_succ]
    refine wpAnyH_take (i := 9) (v := undef) rfl (by kernel_rfl) (by kernel_rfl) (by kernel_rfl) (fun _ _ _ h => h) (Or.inr ⟨by kernel_rfl, rfl⟩) (by first | trivial | assumption) ?_
    try simp only [Act.put, List.getElem_toArray, List.getElem_cons_succ, List.getElem_cons_zero, List.setIfInBounds_toArray, List.set_cons_zero, List.set_cons_succ]
    refine wpAnyH_take (i := 10) (v := undef) rfl (by kernel_rfl) (by kernel_rfl) (by kernel_rfl) (fun _ _ _ h => h) (Or.inr ⟨by kernel_rfl, rfl⟩) (by first | trivial | assumption) ?_
    try simp only [Act.put, List.getElem_toArray, List.getElem_cons_succ, List.getElem_cons_zero, List.setIfInBounds_toArray, List.set_cons_zero, List.set_cons_succ]
    refine wpAnyH_take (i := 11) (v := undef) rfl (by kernel_rfl) (by kernel_rfl) (by kernel_rfl) (fun _ _ _ h => h) (Or.inr ⟨by kernel_rfl, rfl⟩) (by first | trivial | assumption) ?_
    try simp only [Act.put, List.getElem_toArray, List.getElem_cons_succ, List.getElem_cons_zero, List.setIfInBounds_toArray, List.set_cons_zero, List.set_cons_succ]
    refine wpAnyH_take (i := 12) (v := undef) rfl (by kernel_rfl) (by kernel_rfl) (by kernel_rfl) (fun _ _ _ h => h) (Or.inr ⟨by kernel_rfl, rfl⟩) (by first | trivial | assumption) ?_
    try simp only [Act.put, List.getElem_toArray, List.getElem_cons_succ, List.getElem_cons_zero, List.setIfInBounds_toArray, List.set_cons_zero, List.set_cons_succ]
    refine wpAnyH_take (i := 13) (v := ?_) rfl (by kernel_rfl) (by kernel_rfl) (by kernel_rfl) (fun _ _ _ h => h) (Or.inl ⟨by kernel_rfl, ?_⟩) (by first | trivial | assumption) ?_
    rotate_left
    ·intro w hSw
     try dsimp only at hSw
     first | (go_simp; done) | (go_simp; with_reducible rfl)
    try simp only [Act.put, List.getElem_toArray, List.getElem_cons_succ, List.getElem_cons_zero, List.setIfInBounds_toArray, List.set_cons_zero, List.set_cons_succ]
    refine wpAnyH_take (i := 14) (v := ?_) rfl (by kernel_rfl) (by kernel_rfl) (by kernel_rfl) (fun _ _ _ h => h) (Or.inl ⟨by kernel_rfl, ?_⟩) (by first | trivial | assumption) ?_
    rotate_left
    ·intro w hSw
     try dsimp only at hSw
     first | (go_simp; done) | (go_simp; with_reducible rfl)
    try simp only [Act.put, List.getElem_toArray, List.getElem_cons_succ, List.getElem_cons_zero, List.setIfInBounds_toArray, List.set_cons_zero, List.set_cons_succ]
    refine wpAnyH_take (i := 15) (v := ?_) rfl (by kernel_rfl) (by kernel_rfl) (by kernel_rfl) (fun _ _ _ h => h) (Or.inl ⟨by kernel_rfl, ?_⟩) (by first | trivial | assumption) ?_
    rotate_left
    ·intro w hSw
     try dsimp only at hSw
     first | (go_simp; done) | (go_simp; with_reducible rfl)
    try simp only [Act.put, List.getElem_toArray, List.getElem_cons_succ, List.getElem_cons_zero, List.setIfInBounds_toArray, List.set_cons_zero, List.set_cons_succ]
    refine wpAnyH_done (by kernel_rfl) ?_ _
    go_wp2_with fail
    go_ret2
    exact ⟨by rw [HFD.out]; rfl, HB1.out.trans (HB.out.drew.mono HB1.out.size)⟩
end Go.Proofs.Ytillckkohdjkbaa
namespace Go.Proofs.Ytillckkohdjkbaa
open Go.RowKit
def OwnP (w : World) (base : Nat) (e : TypeId) (v : Value) (ps : List Pos) : Prop := w.ownsRow base e 3 v ps.length (cellsOf ps)
def posCell (p : Pos) : Nat → Value
 | 0 => .int .i64 p.e
 | 1 => .int .i64 p.c
 | _ => .int .i64 p.a
theorem cellsOf_get : ∀ (ps : List Pos) (i t : Nat) (hi : i < ps.length), t < 3 → (cellsOf ps)[i * 3 + t]? = some (posCell ps[i] t)
 | p :: ps, 0, t, _, ht => by
  match t, ht with
  | 0, _ => rfl
  | 1, _ => rfl
  | 2, _ => rfl
 | p :: ps, i + 1, t, hi, ht => by
  have := cellsOf_get ps i t (by simpa using hi) ht
  rw [show (i + 1) * 3 + t = (i * 3 + t) + 1 + 1 + 1 by omega]
  simpa [cellsOf, Pos.cells] using this
theorem cellsOf_onecell (ps : List Pos) : ∀ u ∈ cellsOf ps, u.oneCell' = true := by
 intro u hu
 obtain ⟨p, _, hp⟩ := List.mem_flatMap.1 hu
 simp only [Pos.cells, List.mem_cons, List.not_mem_nil, or_false] at hp
 rcases hp with rfl | rfl | rfl <;> rfl
theorem OwnP.form {w : World} {base : Nat} {e : TypeId} {v : Value} {ps : List Pos} (h : OwnP w base e v ps) : ∃ p c, v = .slice p ps.length c := by
 obtain ⟨_, h⟩ := h
 rcases h with ⟨rfl, h0⟩ | ⟨g, cap, cur, rfl, _⟩
 ·exact ⟨none, 0, by rw [h0]⟩
 ·exact ⟨_, _, rfl⟩
theorem OwnP.nil_ (w : World) (base : Nat) (e : TypeId) : OwnP w base e (.slice none 0 0) [] := ⟨by simp [cellsOf], .inl ⟨rfl, rfl⟩⟩
theorem OwnP.block_ge {w : World} {base : Nat} {e : TypeId} {v : Value} {ps : List Pos} (h : OwnP w base e v ps) : ∀ g, v.ownBlock = some g → base ≤ g := by
 intro g hg
 rcases h.2 with ⟨rfl, _⟩ | ⟨g', cap, cur, rfl, hb, _⟩
 ·cases hg
 ·cases hg; exact hb
theorem OwnP.lt {w : World} {base : Nat} {e : TypeId} {v : Value} {ps : List Pos} (h : OwnP w base e v ps) : ∀ g, v.ownBlock = some g → g < w.heap.size := fun g hg => (World.ownsRow.lt h g hg).2
theorem OwnP.later {w w' : World} {base : Nat} {e : TypeId} {v : Value} {ps : List Pos} (h : OwnP w base e v ps) (hb : Below w.heap.size w w') : OwnP w' base e v ps := by
 have hl := h.lt
 refine ⟨h.1, ?_⟩
 rcases h.2 with h | ⟨g, cap, cur, rfl, hbg, hg, hr⟩
 ·exact .inl h
 ·exact .inr ⟨g, cap, cur, rfl, hbg, (hb.block g (hl g rfl)).trans hg, hr⟩
theorem OwnP.row {w : World} {base : Nat} {e : TypeId} {v : Value} {ps : List Pos} (h : OwnP w base e v ps) : PRow w v ps := by
 obtain ⟨hl, h⟩ := h
 rcases h with ⟨rfl, h0⟩ | ⟨g, cap, cur, rfl, _, hg, hn, _, _, ht⟩
 ·have : ps = [] := List.length_eq_zero_iff.mp h0
  subst this
  exact PRow.nil_ w
 ·have hcell : ∀ i (hi : i < ps.length) t, t < 3 → w.cell? ⟨g, 0 + i * 3 + t, none⟩ = some (posCell ps[i] t) := by
   intro i hi t ht3
   rw [Nat.zero_add, cell_of_row w g _ cur e (0, 0) hg]
   have h1 := congrArg (fun l => l[i * 3 + t]?) ht
   simp only [List.getElem?_take] at h1
   rw [if_pos (by omega), cellsOf_get ps i t hi ht3] at h1
   simpa using h1
  refine ⟨_, cap, rfl, hn, .inr ⟨g, 0, rfl, lt_of_block hg, fun i hi => ⟨?_, ?_, ?_⟩⟩⟩
  ·exact hcell i hi 0 (by omega)
  ·exact hcell i hi 1 (by omega)
  ·exact hcell i hi 2 (by omega)
theorem PRow.newsAt {w : World} {a : Addr} {n c : Nat} {ps : List Pos} (h : PRow w (.slice (some a) n c) ps) : ∀ (j : Nat) (u : Value), (cellsOf ps)[j]? = some u → w.cell? (a.add j) = some u := by
 intro j u hj
 have hjl : j < ps.length * 3 := by
  rcases Nat.lt_or_ge j (ps.length * 3) with h | h
  ·exact h
  ·rw [List.getElem?_eq_none (by rw [cellsOf_length]; exact h)] at hj; cases hj
 have hi : j / 3 < ps.length := by omega
 obtain ⟨b, o, e, _, h0, h1, h2⟩ := h.at_ (j / 3) hi
 cases e
 have hj2 := cellsOf_get ps (j / 3) (j % 3) hi (by omega)
 rw [show j / 3 * 3 + j % 3 = j by omega, hj] at hj2
 have e2 := Option.some.inj hj2
 rw [addAt, e2]
 rcases (show j % 3 = 0 ∨ j % 3 = 1 ∨ j % 3 = 2 by omega) with h | h | h <;> rw [h]
 ·rw [show o + j = o + j / 3 * 3 by omega]; exact h0
 ·rw [show o + j = o + j / 3 * 3 + 1 by omega]; exact h1
 ·rw [show o + j = o + j / 3 * 3 + 2 by omega]; exact h2
def zeroP : Value := .agg #[.int .i64 0, .int .i64 0, .int .i64 0]
def EltP (P : Program) (t e : TypeId) : Prop := ∃ i, P.underlying t = some (.slice e) ∧ P.info? e = some i ∧ i.zero = some zeroP ∧ i.size = 3 ∧ i.bytes = 24
theorem eltP_mk {P : Program} {t e : TypeId} (ht : P.underlying t = some (.slice e)) (h : (P.info? e).map (fun i => (i.zero, i.size, i.bytes)) = some (some zeroP, 3, 24)) : EltP P t e := by
 cases hi : P.info? e with
 | none => rw [hi] at h; cases h
 | some i =>
  rw [hi] at h
  simp only [Option.map_some, Option.some.injEq, Prod.mk.injEq] at h
  exact ⟨i, ht, hi, h.1, h.2.1, h.2.2⟩
theorem run_append_pos {P : Program} (w : World) (t ty e : TypeId) (base : Nat) (he : EltP P t e) (v y : Value) (ps qs : List Pos) (hown : OwnP w base e v ps) (hrow : PRow w y qs)
  (h63 : ps.length + qs.length ≤ 1000000) (hbase : base ≤ w.heap.size) :
  ∃ v' w', (Builtin.append_ #[t, t] ty #[v, y]).run P w = .ok v' w' ∧ OwnP w' base e v' (ps ++ qs) ∧ Below base w w' := by
 obtain ⟨i, ht, hi, hz, hs, hby⟩ := he
 obtain ⟨p, c, rfl, hc, hr⟩ := id hrow
 cases p with
 | some ad =>
  obtain ⟨v', w', hrun, hown', hg, _⟩ := run_append_own_at (P := P) w base t ty e i zeroP 3 24 ht hi hz hs hby rfl (by decide) v ps.length (cellsOf ps) hown ad qs.length c (cellsOf qs) (cellsOf_length qs) hrow.newsAt (cellsOf_onecell qs) (by unfold maxLen; omega) (by omega) hbase
  refine ⟨v', w', hrun, ?_, (Below.refl _ _).grown hg hbase (fun g hg' => hown.block_ge g hg')⟩
  unfold OwnP
  rw [cellsOf_app, List.length_append]
  exact hown'
 | none =>
  have hy : qs = [] := by
   rcases hr with h | ⟨b, o, h, _⟩
   ·exact h
   ·cases h
  subst hy
  refine ⟨v, w, ?_, by simpa using hown, Below.refl _ _⟩
  rcases hown.2 with ⟨rfl, h0⟩ | ⟨g, cap, cur, rfl, _, _, hnc, _⟩
  ·simp [Builtin.append_, run_underlying ht, sizeOf, typeInfo, hi, Builtin.lenOf, Builtin.firstCells]
  ·simp [Builtin.append_, run_underlying ht, sizeOf, typeInfo, hi, Builtin.lenOf, Builtin.firstCells, hnc, storeCells]
/-- In a plain region. -/
theorem wpList_append_pos {P : Program} {w : World} {ops : Array Oper} {rest : List Oper} {o : Oper} {a : Act} {Q : Exit → Act → World → Prop} (hgd : o.guard = none) (s x : Operand) (t : TypeId)
  (ho : o.op = .call { callee := .builtin .append, args := #[s, x], argTypes := #[t, t] })
  (e : TypeId) (base : Nat) (he : EltP P t e) (v y : Value) (ps qs : List Pos) (hs : a.eval s = v) (hx : a.eval x = y) (hown : OwnP w base e v ps) (hrow : PRow w y qs)
  (h63 : ps.length + qs.length ≤ 1000000) (hbase : base ≤ w.heap.size) (L : List Pos) (N : Nat) (hL : ps ++ qs = L) (hN : L.length = N)
  (h : ∀ p' c' w', OwnP w' base e (.slice p' N c') L → Below base w w' → wpList P ops Q rest (a.put o.dst (.slice p' N c')) w') : wpList P ops Q (o :: rest) a w := by
 subst hL
 subst hN
 refine wpList_plain hgd fun K hK => ?_
 obtain ⟨v', w', hrun, h1, h2⟩ := run_append_pos w t o.type e base he v y ps qs hown hrow h63 hbase
 unfold Oper.wp
 obtain ⟨p', c', rfl⟩ := h1.form
 simp [execOp, ho, resolve, invoke, builtin, hs, hx, hrun, Result.andThen]
 exact hK _ _ (by simpa using h p' c' w' h1 h2)
theorem elt_pos : EltP Try.prog 48 77 := eltP_mk Try.underlying48 (by kernel_rfl)
set_option maxHeartbeats 1000000 in
set_option maxRecDepth 100000 in
theorem growP_nil (n : Nat) (w : World) (hn : n ≤ 1000000) :
  Calls Try.prog 59 #[.slice none 0 0, .int .i64 n] w fun e w' => ∃ v, e = .returned v ∧ OwnP w' w.heap.size 77 v [] ∧ Below w.heap.size w w' := by
 obtain ⟨i0, _, hi, hz, hs, hby⟩ := elt_pos
 by_cases h0 : n = 0
 ·subst h0
  go_enter Try.func59, Try.ntmps59
  go_wp2
  go_ret
  exact ⟨_, rfl, OwnP.nil_ _ _ _, Below.refl _ _⟩
 ·have hpos : (0 : Int) < (n : Int) := by omega
  have happ := Lib.run_append_nil_zeros (P := Try.prog) w 48 3 48 77 i0 zeroP .i64 .i64 Try.underlying48 Try.underlying3 hi hz n (by omega) (by omega) (by omega) (by rw [hby]; omega)
  generalize hcap : grownCap w n 0 77 = cap2 at happ
  have hcapge : n ≤ cap2 := by rw [← hcap]; exact grownCap_ge w _ 0 77
  have hcaple : cap2 ≤ maxLen := by rw [← hcap]; exact grownCap_le_maxLen w _ 0 77 (by unfold maxLen; omega)
  generalize hZ : (Builtin.zeroCells zeroP.cells n ++ Builtin.zeroCells zeroP.cells (cap2 - n)) = Z at happ
  have hZs : Z.size = cap2 * 3 := by rw [← hZ]; simp [Builtin.zeroCells, Value.cells, zeroP]; omega
  clear hcap hZ h0
  have HG := Lib.hid hcapge
  have HL := Lib.hid hcaple
  have HS := Lib.hid hZs
  clear hcapge hcaple hZs
  go_enter Try.func59, Try.ntmps59
  go_wp2_with (at_builtin; refine Lib.wpList_append_run _ rfl _ _ _ _ rfl _ _ rfl rfl _ _ happ ?_)
  go_ret
  exact ⟨_, rfl, ⟨by simp [cellsOf], .inr ⟨w.heap.size, cap2, Z, rfl, Nat.le_refl _, heap_alloc_new w.drew _, Nat.zero_le _, HL.out, HS.out, by simp [cellsOf]⟩⟩, (Below.refl _ _).drew.alloc (Nat.le_refl _) _⟩
/-- Slices in a slice: each the address of a row. -/
def RowsP (w : World) (b o : Nat) (vs : List Value) (pss : List (List Pos)) : Prop :=
 vs.length = pss.length ∧ ∀ i, i < pss.length → w.cell? ⟨b, o + i, none⟩ = some (vs.getD i undef) ∧ PRow w (vs.getD i undef) (pss.getD i [])
def catP (pss : List (List Pos)) (k : Nat) : List Pos := (pss.take k).flatten
theorem catP_succ (pss : List (List Pos)) (k : Nat) (h : k < pss.length) : catP pss k ++ pss.getD k [] = catP pss (k + 1) := by
 unfold catP
 rw [List.take_succ_eq_append_getElem h, List.flatten_append, List.getD_eq_getElem?_getD, List.getElem?_eq_getElem h]; simp
theorem catP_len (pss : List (List Pos)) (k : Nat) (h : k < pss.length) : (catP pss (k + 1)).length = (catP pss k).length + (pss.getD k []).length := by rw [← catP_succ pss k h, List.length_append]
theorem catP_le (pss : List (List Pos)) (k : Nat) : (catP pss k).length ≤ pss.flatten.length := by
 unfold catP
 have : pss.flatten = (pss.take k).flatten ++ (pss.drop k).flatten := by rw [← List.flatten_append, List.take_append_drop]
 rw [this, List.length_append]; omega
def CatRelP (w : World) (pss : List (List Pos)) (k : Nat) (v : Value) (wr : World) : Prop := OwnP wr w.heap.size 77 v (catP pss k) ∧ Below w.heap.size w wr
set_option maxHeartbeats 2000000 in
set_option maxRecDepth 100000 in
theorem concatP_any (b o m c : Nat) (vs : List Value) (pss : List (List Pos)) (w : World) (hR : RowsP w b o vs pss) (hm : m = pss.length) (hmc : m ≤ 1000) (hbig : pss.flatten.length ≤ 100000) :
  Calls Try.prog 56 #[.slice (some ⟨b, o, none⟩) m c] w fun e w' => ∃ v, e = .returned v ∧ OwnP w' w.heap.size 77 v pss.flatten ∧ Below w.heap.size w w' := by
 have HR := Lib.hid hR.2
 have HM := Lib.hid hm
 have HSB : Hid (∀ k, (catP pss k).length ≤ 100000) := fun k => Nat.le_trans (catP_le pss k) hbig
 clear hR hm
 go_enter Try.func56, Try.ntmps56
 go_wp2
 go_loop [3, 11] (fun s i => ∃ (k : Nat), k ≤ m ∧ i = .int .i64 k ∧ s = .int .i64 ((catP pss k).length : Nat)) (fun _ i => m - (intOf i).toNat)
 case atStart => exact ⟨0, by omega, rfl, rfl⟩
 case round =>
  obtain ⟨k, hk, rfl, rfl⟩ := hrel
  by_cases hlt : k < m
  ·obtain ⟨hc, hrow⟩ := HR.out k (by rw [← HM.out]; exact hlt)
   obtain ⟨p1, c1, hv⟩ := hrow.shape
   rw [hv] at hc
   have hs := Lib.hid (catP_len pss k (by rw [← HM.out]; exact hlt))
   have hsb := HSB.out (k + 1)
   rw [hs.out] at hsb
   clear hv hrow
   generalize (pss.getD k []).length = L at *
   go_wp2
   go_round
   case rel => exact ⟨k + 1, by omega, by go_num, by rw [hs.out]; go_num⟩
   case measure => simp [intOf]; omega
  ·have hkm : (m : Int) ≤ (k : Int) := by omega
   have hsb := HSB.out k
   go_wp2_with fail
   refine (growP_nil _ _ (by omega)).mono ?_
   rintro e w1 ⟨v1, rfl, ho1, hb1⟩
   have hstart : CatRelP w pss 0 v1 w1 := ⟨by simpa [catP] using ho1, hb1⟩
   have HST := Lib.hid hstart
   clear hstart ho1 hb1
   go_wp2_with fail
   go_loopw [6, 27] (fun v i wr => ∃ (j : Nat), j ≤ m ∧ i = .int .i64 j ∧ Hid (CatRelP w pss j v wr)) (fun _ i _ => m - (intOf i).toNat)
   case atStart => exact ⟨0, by omega, rfl, HST⟩
   case round =>
    obtain ⟨j, hj, rfl, HJ⟩ := hrel
    by_cases hlt : j < m
    ·have hlz : j < pss.length := by rw [← HM.out]; exact hlt
     obtain ⟨hc, hrow⟩ := HR.out j hlz
     obtain ⟨p1, c1, hv⟩ := hrow.shape
     have hbl := World.block_lt_of_cell? w _ hc
     have HRW := Lib.hid hrow
     rw [hv] at hc HRW
     have hcw := (HJ.out.2.cell (p := ⟨b, o + j, none⟩) hbl).trans hc
     have HLEN : Hid ((catP pss j).length + (pss.getD j []).length ≤ 100000) := by have h := HSB.out (j + 1); rw [catP_len pss j hlz] at h; exact h
     have HLZ := Lib.hid hlz
     clear hv hrow hc hbl hlz
     obtain ⟨p0, c0, hv0⟩ := HJ.out.1.form
     have HJ2 := HJ.out
     rw [hv0] at HJ2
     have HJ3 := Lib.hid HJ2
     subst hv0
     clear HJ2
     go_wp2_with (at_builtin; go_loud (refine wpList_append_pos rfl _ _ 48 rfl 77 w.heap.size elt_pos _ _ (catP pss j) (pss.getD j []) rfl rfl HJ3.out.1 (HRW.out.kept (HJ3.out.2)) (by have h : _ ≤ _ := HLEN.out; omega) HJ3.out.2.size (catP pss (j + 1)) ((catP pss (j + 1)).length) (catP_succ pss j HLZ.out) rfl ?_; intro p2 c2 w2 ho2 hb2; have HN := Lib.hid (show CatRelP w pss (j + 1) _ w2 from ⟨ho2, HJ3.out.2.trans hb2⟩); clear ho2 hb2))
     go_roundw
     case rel => exact ⟨j + 1, by omega, by go_num, HN⟩
     case measure => simp [intOf]; omega
    ·have hjm : (m : Int) ≤ (j : Int) := by omega
     have hjz : j = pss.length := by rw [← HM.out]; omega
     have hE := HJ.out
     rw [hjz] at hE
     have HE := Lib.hid hE
     clear hjz hE
     go_wp2
     go_ret
     exact ⟨_, rfl, by have := HE.out.1; unfold catP at this; rwa [List.take_length] at this, HE.out.2⟩
end Go.Proofs.Ytillckkohdjkbaa
namespace Go.Proofs.Ytillckkohdjkbaa
open Go.RowKit
/-- A vector as a value. -/
def vecV (v : Value) : Value := .agg #[v]
theorem find_any (w : World) (v : Value) (ps A mid B : List Pos) (t : Pos) (hr : PRow w v ps) (hA : Around t ps A mid B) (hn : ps.length ≤ 1000) :
  Calls Try.prog 29 #[vecV v, posV t.e t.c t.a] w fun x w' => x = .returned (.tuple #[.int .i64 A.length, .bool (decide (mid ≠ []))]) ∧ Below w.heap.size w w' := by
 have HS := Lib.hid (fun (w' : World) (hb : Below w.heap.size w w') => search_any w' v ps A mid B t (hr.kept hb) hA hn)
 clear hr hA hn
 generalize decide (mid ≠ []) = fnd at HS ⊢
 unfold vecV posV at *
 have h2 : Below w.heap.size w ((w.alloc (.cells #[v] 50)).alloc (.cells #[.int .i64 t.e, .int .i64 t.c, .int .i64 t.a] 77)) := (oneB w _).alloc (by simp) _
 have H2 := Lib.hid h2
 clear h2
 go_enter Try.func29, Try.ntmps29
 go_wp2_with fail
 refine (HS.out _ H2.out).mono ?_
 rintro y w1 ⟨rfl, hb1⟩
 have HB := ktq H2 hb1
 clear hb1
 go_wp2_with fail
 go_ret2
 exact ⟨rfl, HB.out⟩
theorem OwnP.less {w : World} {base base' : Nat} {e : TypeId} {v : Value} {ps : List Pos} (h : OwnP w base e v ps) (hb : base' ≤ base) : OwnP w base' e v ps := by
 refine ⟨h.1, ?_⟩
 rcases h.2 with h | ⟨g, cap, cur, rfl, hbg, hr⟩
 ·exact .inl h
 ·exact .inr ⟨g, cap, cur, rfl, by omega, hr⟩
theorem OwnP.setLow {w : World} {base : Nat} {e : TypeId} {v : Value} {ps : List Pos} (h : OwnP w base e v ps) {a : Addr} (ha : a.block < base) (u : Value) : OwnP (w.setCell a u) base e v ps := by
 refine ⟨h.1, ?_⟩
 rcases h.2 with h | ⟨g, cap, cur, rfl, hbg, hg, hr⟩
 ·exact .inl h
 ·exact .inr ⟨g, cap, cur, rfl, hbg, (Below.heap_setCell w a u g (by omega)).trans hg, hr⟩
theorem rows_one (w : World) (v : Value) (ps : List Pos) (hv : PRow w v ps) (T : TypeId) (b : Nat) (hb : b = w.heap.size) : RowsP (w.alloc (.cells #[v] T)) b 0 [v] [ps] := by
 subst hb
 refine ⟨rfl, fun i hi => ?_⟩
 obtain rfl : i = 0 := by simp at hi; omega
 exact ⟨(Blk.new w #[v] T).cell 0, hv.kept (oneB w _)⟩
set_option maxHeartbeats 2000000 in
theorem clone_vec (w : World) (v : Value) (ps : List Pos) (hr : PRow w v ps) (hn : ps.length ≤ 1000) :
  Calls Try.prog 42 #[vecV v] w fun x w' => ∃ v', x = .returned (vecV v') ∧ OwnP w' w.heap.size 77 v' ps ∧ Below w.heap.size w w' := by
 obtain ⟨pv, cv, rfl⟩ := hr.shape
 unfold vecV
 have h2 : Below w.heap.size w ((w.alloc (.cells #[.slice pv ps.length cv] 50)).alloc (.cells #[.slice none 0 0] 50)) := (oneB w _).alloc (by simp) _
 have hR := rows_one ((w.alloc (.cells #[.slice pv ps.length cv] 50)).alloc (.cells #[.slice none 0 0] 50)) (.slice pv ps.length cv) ps (hr.kept h2) 48 (w.heap.size + 1 + 1) (by simp)
 have HC := Lib.hid (concatP_any _ 0 1 1 [.slice pv ps.length cv] [ps] _ hR rfl (by omega) (by simp; omega))
 have HRES := Lib.hid ((Blk.new' (w.alloc (.cells #[.slice pv ps.length cv] 50)) #[.slice none 0 0] 50 (b := w.heap.size + 1) (by simp)).alloc (.cells #[.slice pv ps.length cv] 48))
 have H3 := Lib.hid (h2.alloc (by simp; omega) (.cells #[.slice pv ps.length cv] 48))
 rw [show [ps].flatten = ps by simp] at HC
 clear h2 hR hr
 go_enter Try.func42, Try.ntmps42
 go_wp2_with fail
 refine HC.out.mono ?_
 rintro y w1 ⟨v1, rfl, ho1, hb1⟩
 obtain ⟨p1, c1, rfl⟩ := ho1.form
 have hres := HRES.out.below hb1 HRES.out.lt
 have r0 : w1.cell? ⟨w.heap.size + 1, 0, none⟩ = some (.slice none 0 0) := hres.cell 0
 have fr0 := hres.free 0
 have lr := hres.lt
 have HO1 := Lib.hid ho1
 have HB := ktq H3 hb1
 have HR1 := Lib.hid hres
 clear ho1 hb1 hres
 go_wp2_with fail
 have hf := HR1.out.set 0 (.slice p1 ps.length c1)
 refine bodyPost_ret (v := .agg #[.slice p1 ps.length c1]) (by simp [results, Try.results42, go_sem, hf.cell 0]) rfl ⟨_, rfl, (HO1.out.setLow (by simp <;> omega) _).less (by simp <;> omega), HB.out.setCell (p := ⟨w.heap.size + 1, 0, none⟩) (Nat.le_succ _) _⟩
def midA : List Pos → Int
 | [] => 0
 | q :: _ => q.a
theorem around_get {t q : Pos} {ps A B : List Pos} (h : Around t ps A [q] B) : ∃ hi : A.length < ps.length, ps[A.length] = q := by
 obtain ⟨rfl, _⟩ := h
 have hi : A.length < (A ++ [q] ++ B).length := by simp only [List.length_append, List.length_singleton]; omega
 refine ⟨hi, ?_⟩
 rw [List.getElem_of_eq (List.append_assoc A [q] B) hi, List.getElem_append_right (by omega)]; simp
set_option maxHeartbeats 2000000 in
theorem of_any (w : World) (v : Value) (ps A mid B : List Pos) (e c : Int) (hr : PRow w v ps) (hA : Around ⟨e, c, 0⟩ ps A mid B) (hn : ps.length ≤ 1000) :
  Calls Try.prog 13 #[vecV v, .int .i64 e, .int .i64 c] w fun x w' => x = .returned (.int .i64 (midA mid)) ∧ Below w.heap.size w w' := by
 have HF := Lib.hid (fun (w' : World) (hb : Below w.heap.size w w') => find_any w' v ps A mid B ⟨e, c, 0⟩ (hr.kept hb) hA hn)
 obtain ⟨pv, cv, rfl⟩ := hr.shape
 have HB0 := Lib.hid (oneB w (.cells #[.slice pv ps.length cv] 50))
 have HBX := Lib.hid (Blk.new w #[.slice pv ps.length cv] 50)
 unfold vecV posV at *
 rcases hA.there with rfl | ⟨q, rfl, _⟩
 ·rw [show decide (([] : List Pos) ≠ []) = false by simp] at HF
  clear hA hr
  go_enter Try.func13, Try.ntmps13
  go_wp2_with fail
  refine (HF.out _ HB0.out).mono ?_
  rintro y w1 ⟨rfl, hb1⟩
  have HB := ktq HB0 hb1
  clear hb1
  go_wp2_with fail
  go_ret
  exact ⟨rfl, HB.out⟩
 ·rw [show decide ([q] ≠ []) = true by simp] at HF
  obtain ⟨hi, hq⟩ := around_get hA
  obtain ⟨b, o, rfl, hbl, h0, h1, h2⟩ := hr.at_ A.length hi
  rw [hq] at h2
  have hcap : ((A.length : Nat) : Int) < (ps.length : Int) := by omega
  have H2 := Lib.hid h2
  have HBL := Lib.hid hbl
  have hsz : (midA [q]) = q.a := rfl
  rw [hsz]
  clear hA hr hq h0 h1 h2 hbl hi hsz
  go_enter Try.func13, Try.ntmps13
  go_wp2_with fail
  refine (HF.out _ HB0.out).mono ?_
  rintro y w1 ⟨rfl, hb1⟩
  have hbx := HBX.out.below hb1 HBX.out.lt
  have v0 : w1.cell? ⟨w.heap.size, 0, none⟩ = some (.slice (some ⟨b, o, none⟩) ps.length cv) := hbx.cell 0
  have HB := ktq HB0 hb1
  have q2 := (HB.out.cell (p := ⟨b, o + A.length * 3 + 2, none⟩) HBL.out).trans H2.out
  clear hb1 hbx
  go_wp2_with fail
  go_ret
  exact ⟨rfl, HB.out⟩
end Go.Proofs.Ytillckkohdjkbaa
namespace Go.Proofs.Ytillckkohdjkbaa
open Go.RowKit
/-- What stands behind a place of a slice. -/
theorem PRow.tail {w : World} {p P : Option Addr} {n c c' N : Nat} {ps : List Pos} (h : PRow w (.slice p n c) ps) (m : Nat) (hm : m ≤ ps.length) (hN : N = ps.length - m) (hc : N ≤ c') (hP : ∀ b o, p = some ⟨b, o, none⟩ → m < ps.length → P = some ⟨b, o + m * 3, none⟩) : PRow w (.slice P N c') (ps.drop m) := by
 subst hN
 obtain ⟨p', c2, e, _, h⟩ := h
 cases e
 have hl : (ps.drop m).length = ps.length - m := List.length_drop
 refine ⟨_, _, by rw [hl], by omega, ?_⟩
 by_cases hz : m < ps.length
 ·rcases h with h | ⟨b, o, hp, hlt, h⟩
  ·subst h; simp at hz
  ·refine .inr ⟨b, _, hP b o hp hz, hlt, fun i hi => ?_⟩
   rw [List.getElem_drop]
   rw [show o + m * 3 + i * 3 = o + (m + i) * 3 by omega]
   exact h (m + i) (by omega)
 ·left; exact List.drop_eq_nil_of_le (by omega)
theorem rows_two (w : World) (va vb : Value) (A B : List Pos) (hA : PRow w va A) (hB : PRow w vb B) (T : TypeId) (b : Nat) (hb : b = w.heap.size) : RowsP (w.alloc (.cells #[va, vb] T)) b 0 [va, vb] [A, B] := by
 subst hb
 refine ⟨rfl, fun i hi => ?_⟩
 match i, hi with
 | 0, _ => exact ⟨(Blk.new w #[va, vb] T).cell 0, hA.kept (oneB w _)⟩
 | 1, _ => exact ⟨(Blk.new w #[va, vb] T).cell 1, hB.kept (oneB w _)⟩
theorem rows_three (w : World) (va vb vc : Value) (A B C : List Pos) (hA : PRow w va A) (hB : PRow w vb B) (hC : PRow w vc C) (T : TypeId) (b : Nat) (hb : b = w.heap.size) : RowsP (w.alloc (.cells #[va, vb, vc] T)) b 0 [va, vb, vc] [A, B, C] := by
 subst hb
 refine ⟨rfl, fun i hi => ?_⟩
 match i, hi with
 | 0, _ => exact ⟨(Blk.new w #[va, vb, vc] T).cell 0, hA.kept (oneB w _)⟩
 | 1, _ => exact ⟨(Blk.new w #[va, vb, vc] T).cell 1, hB.kept (oneB w _)⟩
 | 2, _ => exact ⟨(Blk.new w #[va, vb, vc] T).cell 2, hC.kept (oneB w _)⟩
theorem concat_two (w : World) (va vb : Value) (A B : List Pos) (hA : PRow w va A) (hB : PRow w vb B) (hn : A.length + B.length ≤ 2000) :
  Calls Try.prog 56 #[.slice (some ⟨w.heap.size, 0, none⟩) 2 2] (w.alloc (.cells #[va, vb] 48)).drew fun e w' => ∃ v, e = .returned v ∧ OwnP w' (w.heap.size + 1) 77 v (A ++ B) ∧ Below w.heap.size w w' := by
 have h := concatP_any w.heap.size 0 2 2 [va, vb] [A, B] (w.alloc (.cells #[va, vb] 48)).drew (rows_two w va vb A B hA hB _ _ rfl) rfl (by omega) (by simp; omega)
 refine h.mono ?_
 rintro e w' ⟨v, rfl, h1, h2⟩
 refine ⟨v, rfl, ?_, (oneB w _).drew.trans (h2.mono (by simp))⟩
 rw [show [A, B].flatten = A ++ B by simp] at h1
 exact h1.less (by simp)
theorem one_row (w : World) (t : Pos) (T : TypeId) : PRow (w.alloc (.cells #[.int .i64 t.e, .int .i64 t.c, .int .i64 t.a] T)) (.slice (some ⟨w.heap.size, 0, none⟩) 1 1) [t] := by
 refine ⟨_, 1, rfl, by simp, .inr ⟨w.heap.size, 0, rfl, by simp, fun i hi => ?_⟩⟩
 have hb := Blk.new w #[.int .i64 t.e, .int .i64 t.c, .int .i64 t.a] T
 obtain rfl : i = 0 := by simp at hi; omega
 exact ⟨hb.cell 0, hb.cell 1, hb.cell 2⟩
theorem concat_three (w : World) (va vc : Value) (t : Pos) (A C : List Pos) (hA : PRow w va A) (hC : PRow w vc C) (hn : A.length + C.length ≤ 2000) (T : TypeId) :
  Calls Try.prog 56 #[.slice (some ⟨w.heap.size + 1, 0, none⟩) 3 3] ((w.alloc (.cells #[.int .i64 t.e, .int .i64 t.c, .int .i64 t.a] T)).alloc (.cells #[va, .slice (some ⟨w.heap.size, 0, none⟩) 1 1, vc] 48)).drew fun e w' => ∃ v, e = .returned v ∧ OwnP w' (w.heap.size + 1) 77 v (A ++ [t] ++ C) ∧ Below w.heap.size w w' := by
 have h := concatP_any (w.heap.size + 1) 0 3 3 [va, .slice (some ⟨w.heap.size, 0, none⟩) 1 1, vc] [A, [t], C] ((w.alloc (.cells #[.int .i64 t.e, .int .i64 t.c, .int .i64 t.a] T)).alloc (.cells #[va, .slice (some ⟨w.heap.size, 0, none⟩) 1 1, vc] 48)).drew
  (rows_three _ va _ vc A [t] C (hA.kept (oneB w _)) (one_row w t T) (hC.kept (oneB w _)) _ _ (by simp)) rfl (by omega) (by simp; omega)
 refine h.mono ?_
 rintro e w' ⟨v, rfl, h1, h2⟩
 refine ⟨v, rfl, ?_, ((oneB w _).alloc (by simp) _).drew.trans (h2.mono (by simp <;> omega))⟩
 rw [show [A, [t], C].flatten = A ++ [t] ++ C by simp] at h1
 exact h1.less (by simp <;> omega)
set_option maxHeartbeats 2000000 in
theorem with_fzc (w : World) (pv : Option Addr) (cv : Nat) (ps A B : List Pos) (q t : Pos) (hr : PRow w (.slice pv ps.length cv) ps) (hA : Around t ps A [q] B) (hn : ps.length ≤ 1000) (j0 : (t.a == 0) = true) (hcv : cv - A.length = 1) :
  Calls Try.prog 44 #[vecV (.slice pv ps.length cv), posV t.e t.c t.a] w fun x w' => ∃ v', x = .returned (vecV v') ∧ OwnP w' w.heap.size 77 v' (A ++ [] ++ B) ∧ Below w.heap.size w w' := by
 have HF := Lib.hid (fun (w' : World) (hb : Below w.heap.size w w') => find_any w' _ ps A [q] B t (hr.kept hb) hA hn)
 have hall := hA.all
 have hlen : ps.length = A.length + 1 + B.length := by rw [hall]; simp; omega
 have hAt : ps.take A.length = A := by rw [hall, List.append_assoc, List.take_left]
 have hBd : ps.drop (A.length + 1) = B := by rw [hall, List.drop_left' (by simp)]
 have hpc : ps.length ≤ cv := by obtain ⟨_, _, e, h, _⟩ := id hr; cases e; exact h
 have HLEN := Lib.hid hlen
 have HR := Lib.hid hr
 have HAT := Lib.hid hAt
 have HBD := Lib.hid hBd
 obtain ⟨b, o, hpv⟩ : ∃ b o, pv = some ⟨b, o, none⟩ := by obtain ⟨b, o, h, _⟩ := hr.at_ A.length (by omega); exact ⟨b, o, h⟩
 subst hpv
 clear hr hA hall hAt hBd
 unfold vecV posV at *
 rw [show decide (([q] : List Pos) ≠ []) = true by simp] at HF
 have hcap1 : ((A.length : Nat) : Int) ≤ (ps.length : Int) := by omega
 have hcap2 : (ps.length : Int) ≤ (cv : Int) := by omega
 have hcap3 : ((A.length : Nat) : Int) ≤ (cv : Int) := by omega
 have hcn : A.length ≤ cv := by omega
 have hcap4 : ((A.length : Nat) : Int) < (ps.length : Int) := by omega
 have hcap5 : 1 ≤ ps.length - A.length := by omega
 have hcap6 : 1 ≤ cv - A.length := by omega
 have hcap7 : ¬ cv - A.length = 0 := by omega
 have hbl : A.length + B.length ≤ 2000 := by omega
 clear hlen
 go_enter Try.func44, Try.ntmps44
 go_wp2_with fail
 generalize hW1 : ((w.alloc (.cells #[.slice (some ⟨b, o, none⟩) ps.length cv] 50)).alloc (.cells #[.int .i64 t.e, .int .i64 t.c, .int .i64 t.a] 77)).alloc (.cells #[.slice none 0 0] 50) = W1
 have hB1 : Below w.heap.size w W1 := by rw [← hW1]; exact ((oneB w _).alloc (by simp) _).alloc (by simp <;> omega) _
 have hV1 : Blk W1 w.heap.size #[.slice (some ⟨b, o, none⟩) ps.length cv] 50 := by rw [← hW1]; exact ((Blk.new w _ _).alloc _).alloc _
 have hT1 : Blk W1 (w.heap.size + 1) #[.int .i64 t.e, .int .i64 t.c, .int .i64 t.a] 77 := by rw [← hW1]; exact (Blk.new' _ _ _ (by simp)).alloc _
 have hR1 : Blk W1 (w.heap.size + 1 + 1) #[.slice none 0 0] 50 := by rw [← hW1]; exact Blk.new' _ _ _ (by simp)
 clear hW1
 refine (HF.out _ hB1).mono ?_
 rintro y w2 ⟨rfl, hb2⟩
 have hV2 := hV1.below hb2 hV1.lt
 have hT2 := hT1.below hb2 hT1.lt
 have hR2 := hR1.below hb2 hR1.lt
 have v0 : w2.cell? ⟨w.heap.size, 0, none⟩ = some (.slice (some ⟨b, o, none⟩) ps.length cv) := hV2.cell 0
 have t0 : w2.cell? ⟨w.heap.size + 1, 0, none⟩ = some (.int .i64 t.e) := hT2.cell 0
 have t1 : w2.cell? ⟨w.heap.size + 1, 1, none⟩ = some (.int .i64 t.c) := hT2.cell 1
 have t2 : w2.cell? ⟨w.heap.size + 1, 2, none⟩ = some (.int .i64 t.a) := hT2.cell 2
 have HB2 := Lib.hid (hB1.trans (hb2.mono hB1.size))
 have HR2 := Lib.hid hR2
 have HRW := Lib.hid (HR.out.kept HB2.out)
 have ha2 := HRW.out.take A.length (by omega)
 rw [HAT.out] at ha2
 have HA2 := Lib.hid ha2
 have HLR := Lib.hid hR2.lt
 clear hB1 hV1 hT1 hR1 hb2 hV2 hT2 hR2 ha2 HF
 go_wp2_with fail
 go_region
 go_wp2_with fail
 refine (concat_two w2 _ _ A B HA2.out ?hB hbl).mono ?_
 case hB =>
  rw [← HBD.out]
  have hlen : _ = _ := HLEN.out
  exact HRW.out.tail (A.length + 1) (by omega) (by omega) (by omega) (fun b' o' e h => by first | (cases e; simp; done) | (cases e; simp; rw [addAt]; done) | (cases e; simp; omega) | (subst e; simp; omega) | (subst e; simp; rw [addAt]; done) | omega)
 rintro y w3 ⟨v3, rfl, ho3, hb3⟩
 obtain ⟨p3, c3, hv3⟩ := ho3.form
 generalize (A ++ B).length = n3 at hv3
 subst hv3
 have hb3' : Below w2.heap.size w2 w3 := hb3
 have hres := HR2.out.below hb3' HLR.out
 have r0 : w3.cell? ⟨w.heap.size + 1 + 1, 0, none⟩ = some (.slice none 0 0) := hres.cell 0
 have fr0 := hres.free 0
 have lr := hres.lt
 have HO3 := Lib.hid ho3
 have HB := Lib.hid (HB2.out.trans (hb3'.mono HB2.out.size))
 have HR3 := Lib.hid hres
 clear ho3 hb3 hb3' hres
 go_wp2_with fail
 have hf := HR3.out.set 0 (.slice p3 n3 c3)
 refine bodyPost_ret (v := .agg #[.slice p3 n3 c3]) (by simp [results, Try.results44, go_sem, hf.cell 0]) rfl ⟨_, rfl, by rw [List.append_nil]; exact (HO3.out.setLow (show w.heap.size + 1 + 1 < w2.heap.size + 1 from Nat.lt_succ_of_lt HLR.out) _).less (by have := HLR.out; omega), HB.out.setCell (p := ⟨w.heap.size + 1 + 1, 0, none⟩) (by show w.heap.size ≤ w.heap.size + 1 + 1; omega) _⟩
set_option maxHeartbeats 2000000 in
theorem with_fzo (w : World) (pv : Option Addr) (cv : Nat) (ps A B : List Pos) (q t : Pos) (hr : PRow w (.slice pv ps.length cv) ps) (hA : Around t ps A [q] B) (hn : ps.length ≤ 1000) (j0 : (t.a == 0) = true) (hcv : ¬ cv - A.length = 1) :
  Calls Try.prog 44 #[vecV (.slice pv ps.length cv), posV t.e t.c t.a] w fun x w' => ∃ v', x = .returned (vecV v') ∧ OwnP w' w.heap.size 77 v' (A ++ [] ++ B) ∧ Below w.heap.size w w' := by
 have HF := Lib.hid (fun (w' : World) (hb : Below w.heap.size w w') => find_any w' _ ps A [q] B t (hr.kept hb) hA hn)
 have hall := hA.all
 have hlen : ps.length = A.length + 1 + B.length := by rw [hall]; simp; omega
 have hAt : ps.take A.length = A := by rw [hall, List.append_assoc, List.take_left]
 have hBd : ps.drop (A.length + 1) = B := by rw [hall, List.drop_left' (by simp)]
 have hpc : ps.length ≤ cv := by obtain ⟨_, _, e, h, _⟩ := id hr; cases e; exact h
 have HLEN := Lib.hid hlen
 have HR := Lib.hid hr
 have HAT := Lib.hid hAt
 have HBD := Lib.hid hBd
 obtain ⟨b, o, hpv⟩ : ∃ b o, pv = some ⟨b, o, none⟩ := by obtain ⟨b, o, h, _⟩ := hr.at_ A.length (by omega); exact ⟨b, o, h⟩
 subst hpv
 clear hr hA hall hAt hBd
 unfold vecV posV at *
 rw [show decide (([q] : List Pos) ≠ []) = true by simp] at HF
 have hcap1 : ((A.length : Nat) : Int) ≤ (ps.length : Int) := by omega
 have hcap2 : (ps.length : Int) ≤ (cv : Int) := by omega
 have hcap3 : ((A.length : Nat) : Int) ≤ (cv : Int) := by omega
 have hcn : A.length ≤ cv := by omega
 have hcap4 : ((A.length : Nat) : Int) < (ps.length : Int) := by omega
 have hcap5 : 1 ≤ ps.length - A.length := by omega
 have hcap6 : 1 ≤ cv - A.length := by omega
 have hcap7 : ¬ cv - A.length = 0 := by omega
 have hbl : A.length + B.length ≤ 2000 := by omega
 clear hlen
 go_enter Try.func44, Try.ntmps44
 go_wp2_with fail
 generalize hW1 : ((w.alloc (.cells #[.slice (some ⟨b, o, none⟩) ps.length cv] 50)).alloc (.cells #[.int .i64 t.e, .int .i64 t.c, .int .i64 t.a] 77)).alloc (.cells #[.slice none 0 0] 50) = W1
 have hB1 : Below w.heap.size w W1 := by rw [← hW1]; exact ((oneB w _).alloc (by simp) _).alloc (by simp <;> omega) _
 have hV1 : Blk W1 w.heap.size #[.slice (some ⟨b, o, none⟩) ps.length cv] 50 := by rw [← hW1]; exact ((Blk.new w _ _).alloc _).alloc _
 have hT1 : Blk W1 (w.heap.size + 1) #[.int .i64 t.e, .int .i64 t.c, .int .i64 t.a] 77 := by rw [← hW1]; exact (Blk.new' _ _ _ (by simp)).alloc _
 have hR1 : Blk W1 (w.heap.size + 1 + 1) #[.slice none 0 0] 50 := by rw [← hW1]; exact Blk.new' _ _ _ (by simp)
 clear hW1
 refine (HF.out _ hB1).mono ?_
 rintro y w2 ⟨rfl, hb2⟩
 have hV2 := hV1.below hb2 hV1.lt
 have hT2 := hT1.below hb2 hT1.lt
 have hR2 := hR1.below hb2 hR1.lt
 have v0 : w2.cell? ⟨w.heap.size, 0, none⟩ = some (.slice (some ⟨b, o, none⟩) ps.length cv) := hV2.cell 0
 have t0 : w2.cell? ⟨w.heap.size + 1, 0, none⟩ = some (.int .i64 t.e) := hT2.cell 0
 have t1 : w2.cell? ⟨w.heap.size + 1, 1, none⟩ = some (.int .i64 t.c) := hT2.cell 1
 have t2 : w2.cell? ⟨w.heap.size + 1, 2, none⟩ = some (.int .i64 t.a) := hT2.cell 2
 have HB2 := Lib.hid (hB1.trans (hb2.mono hB1.size))
 have HR2 := Lib.hid hR2
 have HRW := Lib.hid (HR.out.kept HB2.out)
 have ha2 := HRW.out.take A.length (by omega)
 rw [HAT.out] at ha2
 have HA2 := Lib.hid ha2
 have HLR := Lib.hid hR2.lt
 clear hB1 hV1 hT1 hR1 hb2 hV2 hT2 hR2 ha2 HF
 go_wp2_with fail
 go_region
 go_wp2_with fail
 refine (concat_two w2 _ _ A B HA2.out ?hB hbl).mono ?_
 case hB =>
  rw [← HBD.out]
  have hlen : _ = _ := HLEN.out
  exact HRW.out.tail (A.length + 1) (by omega) (by omega) (by omega) (fun b' o' e h => by first | (cases e; simp; done) | (cases e; simp; rw [addAt]; done) | (cases e; simp; omega) | (subst e; simp; omega) | (subst e; simp; rw [addAt]; done) | omega)
 rintro y w3 ⟨v3, rfl, ho3, hb3⟩
 obtain ⟨p3, c3, hv3⟩ := ho3.form
 generalize (A ++ B).length = n3 at hv3
 subst hv3
 have hb3' : Below w2.heap.size w2 w3 := hb3
 have hres := HR2.out.below hb3' HLR.out
 have r0 : w3.cell? ⟨w.heap.size + 1 + 1, 0, none⟩ = some (.slice none 0 0) := hres.cell 0
 have fr0 := hres.free 0
 have lr := hres.lt
 have HO3 := Lib.hid ho3
 have HB := Lib.hid (HB2.out.trans (hb3'.mono HB2.out.size))
 have HR3 := Lib.hid hres
 clear ho3 hb3 hb3' hres
 go_wp2_with fail
 have hf := HR3.out.set 0 (.slice p3 n3 c3)
 refine bodyPost_ret (v := .agg #[.slice p3 n3 c3]) (by simp [results, Try.results44, go_sem, hf.cell 0]) rfl ⟨_, rfl, by rw [List.append_nil]; exact (HO3.out.setLow (show w.heap.size + 1 + 1 < w2.heap.size + 1 from Nat.lt_succ_of_lt HLR.out) _).less (by have := HLR.out; omega), HB.out.setCell (p := ⟨w.heap.size + 1 + 1, 0, none⟩) (by show w.heap.size ≤ w.heap.size + 1 + 1; omega) _⟩
set_option maxHeartbeats 2000000 in
theorem with_fac (w : World) (pv : Option Addr) (cv : Nat) (ps A B : List Pos) (q t : Pos) (hr : PRow w (.slice pv ps.length cv) ps) (hA : Around t ps A [q] B) (hn : ps.length ≤ 1000) (j0 : (t.a == 0) = false) (hcv : cv - A.length = 1) :
  Calls Try.prog 44 #[vecV (.slice pv ps.length cv), posV t.e t.c t.a] w fun x w' => ∃ v', x = .returned (vecV v') ∧ OwnP w' w.heap.size 77 v' (A ++ [t] ++ B) ∧ Below w.heap.size w w' := by
 have HF := Lib.hid (fun (w' : World) (hb : Below w.heap.size w w') => find_any w' _ ps A [q] B t (hr.kept hb) hA hn)
 have hall := hA.all
 have hlen : ps.length = A.length + 1 + B.length := by rw [hall]; simp; omega
 have hAt : ps.take A.length = A := by rw [hall, List.append_assoc, List.take_left]
 have hBd : ps.drop (A.length + 1) = B := by rw [hall, List.drop_left' (by simp)]
 have hpc : ps.length ≤ cv := by obtain ⟨_, _, e, h, _⟩ := id hr; cases e; exact h
 have HLEN := Lib.hid hlen
 have HR := Lib.hid hr
 have HAT := Lib.hid hAt
 have HBD := Lib.hid hBd
 obtain ⟨b, o, hpv⟩ : ∃ b o, pv = some ⟨b, o, none⟩ := by obtain ⟨b, o, h, _⟩ := hr.at_ A.length (by omega); exact ⟨b, o, h⟩
 subst hpv
 clear hr hA hall hAt hBd
 unfold vecV posV at *
 rw [show decide (([q] : List Pos) ≠ []) = true by simp] at HF
 have hcap1 : ((A.length : Nat) : Int) ≤ (ps.length : Int) := by omega
 have hcap2 : (ps.length : Int) ≤ (cv : Int) := by omega
 have hcap3 : ((A.length : Nat) : Int) ≤ (cv : Int) := by omega
 have hcn : A.length ≤ cv := by omega
 have hcap4 : ((A.length : Nat) : Int) < (ps.length : Int) := by omega
 have hcap5 : 1 ≤ ps.length - A.length := by omega
 have hcap6 : 1 ≤ cv - A.length := by omega
 have hcap7 : ¬ cv - A.length = 0 := by omega
 have hbl : A.length + B.length ≤ 2000 := by omega
 clear hlen
 go_enter Try.func44, Try.ntmps44
 go_wp2_with fail
 generalize hW1 : ((w.alloc (.cells #[.slice (some ⟨b, o, none⟩) ps.length cv] 50)).alloc (.cells #[.int .i64 t.e, .int .i64 t.c, .int .i64 t.a] 77)).alloc (.cells #[.slice none 0 0] 50) = W1
 have hB1 : Below w.heap.size w W1 := by rw [← hW1]; exact ((oneB w _).alloc (by simp) _).alloc (by simp <;> omega) _
 have hV1 : Blk W1 w.heap.size #[.slice (some ⟨b, o, none⟩) ps.length cv] 50 := by rw [← hW1]; exact ((Blk.new w _ _).alloc _).alloc _
 have hT1 : Blk W1 (w.heap.size + 1) #[.int .i64 t.e, .int .i64 t.c, .int .i64 t.a] 77 := by rw [← hW1]; exact (Blk.new' _ _ _ (by simp)).alloc _
 have hR1 : Blk W1 (w.heap.size + 1 + 1) #[.slice none 0 0] 50 := by rw [← hW1]; exact Blk.new' _ _ _ (by simp)
 clear hW1
 refine (HF.out _ hB1).mono ?_
 rintro y w2 ⟨rfl, hb2⟩
 have hV2 := hV1.below hb2 hV1.lt
 have hT2 := hT1.below hb2 hT1.lt
 have hR2 := hR1.below hb2 hR1.lt
 have v0 : w2.cell? ⟨w.heap.size, 0, none⟩ = some (.slice (some ⟨b, o, none⟩) ps.length cv) := hV2.cell 0
 have t0 : w2.cell? ⟨w.heap.size + 1, 0, none⟩ = some (.int .i64 t.e) := hT2.cell 0
 have t1 : w2.cell? ⟨w.heap.size + 1, 1, none⟩ = some (.int .i64 t.c) := hT2.cell 1
 have t2 : w2.cell? ⟨w.heap.size + 1, 2, none⟩ = some (.int .i64 t.a) := hT2.cell 2
 have HB2 := Lib.hid (hB1.trans (hb2.mono hB1.size))
 have HR2 := Lib.hid hR2
 have HRW := Lib.hid (HR.out.kept HB2.out)
 have ha2 := HRW.out.take A.length (by omega)
 rw [HAT.out] at ha2
 have HA2 := Lib.hid ha2
 have HLR := Lib.hid hR2.lt
 clear hB1 hV1 hT1 hR1 hb2 hV2 hT2 hR2 ha2 HF
 go_wp2_with fail
 go_region
 go_wp2_with fail
 refine (concat_three w2 _ _ t A B HA2.out ?hB hbl _).mono ?_
 case hB =>
  rw [← HBD.out]
  have hlen : _ = _ := HLEN.out
  exact HRW.out.tail (A.length + 1) (by omega) (by omega) (by omega) (fun b' o' e h => by first | (cases e; simp; done) | (cases e; simp; rw [addAt]; done) | (cases e; simp; omega) | (subst e; simp; omega) | (subst e; simp; rw [addAt]; done) | omega)
 rintro y w3 ⟨v3, rfl, ho3, hb3⟩
 obtain ⟨p3, c3, hv3⟩ := ho3.form
 generalize (A ++ [t] ++ B).length = n3 at hv3
 subst hv3
 have hb3' : Below w2.heap.size w2 w3 := hb3
 have hres := HR2.out.below hb3' HLR.out
 have r0 : w3.cell? ⟨w.heap.size + 1 + 1, 0, none⟩ = some (.slice none 0 0) := hres.cell 0
 have fr0 := hres.free 0
 have lr := hres.lt
 have HO3 := Lib.hid ho3
 have HB := Lib.hid (HB2.out.trans (hb3'.mono HB2.out.size))
 have HR3 := Lib.hid hres
 clear ho3 hb3 hb3' hres
 go_wp2_with fail
 have hf := HR3.out.set 0 (.slice p3 n3 c3)
 refine bodyPost_ret (v := .agg #[.slice p3 n3 c3]) (by simp [results, Try.results44, go_sem, hf.cell 0]) rfl ⟨_, rfl,  (HO3.out.setLow (show w.heap.size + 1 + 1 < w2.heap.size + 1 from Nat.lt_succ_of_lt HLR.out) _).less (by have := HLR.out; omega), HB.out.setCell (p := ⟨w.heap.size + 1 + 1, 0, none⟩) (by show w.heap.size ≤ w.heap.size + 1 + 1; omega) _⟩
set_option maxHeartbeats 2000000 in
theorem with_fao (w : World) (pv : Option Addr) (cv : Nat) (ps A B : List Pos) (q t : Pos) (hr : PRow w (.slice pv ps.length cv) ps) (hA : Around t ps A [q] B) (hn : ps.length ≤ 1000) (j0 : (t.a == 0) = false) (hcv : ¬ cv - A.length = 1) :
  Calls Try.prog 44 #[vecV (.slice pv ps.length cv), posV t.e t.c t.a] w fun x w' => ∃ v', x = .returned (vecV v') ∧ OwnP w' w.heap.size 77 v' (A ++ [t] ++ B) ∧ Below w.heap.size w w' := by
 have HF := Lib.hid (fun (w' : World) (hb : Below w.heap.size w w') => find_any w' _ ps A [q] B t (hr.kept hb) hA hn)
 have hall := hA.all
 have hlen : ps.length = A.length + 1 + B.length := by rw [hall]; simp; omega
 have hAt : ps.take A.length = A := by rw [hall, List.append_assoc, List.take_left]
 have hBd : ps.drop (A.length + 1) = B := by rw [hall, List.drop_left' (by simp)]
 have hpc : ps.length ≤ cv := by obtain ⟨_, _, e, h, _⟩ := id hr; cases e; exact h
 have HLEN := Lib.hid hlen
 have HR := Lib.hid hr
 have HAT := Lib.hid hAt
 have HBD := Lib.hid hBd
 obtain ⟨b, o, hpv⟩ : ∃ b o, pv = some ⟨b, o, none⟩ := by obtain ⟨b, o, h, _⟩ := hr.at_ A.length (by omega); exact ⟨b, o, h⟩
 subst hpv
 clear hr hA hall hAt hBd
 unfold vecV posV at *
 rw [show decide (([q] : List Pos) ≠ []) = true by simp] at HF
 have hcap1 : ((A.length : Nat) : Int) ≤ (ps.length : Int) := by omega
 have hcap2 : (ps.length : Int) ≤ (cv : Int) := by omega
 have hcap3 : ((A.length : Nat) : Int) ≤ (cv : Int) := by omega
 have hcn : A.length ≤ cv := by omega
 have hcap4 : ((A.length : Nat) : Int) < (ps.length : Int) := by omega
 have hcap5 : 1 ≤ ps.length - A.length := by omega
 have hcap6 : 1 ≤ cv - A.length := by omega
 have hcap7 : ¬ cv - A.length = 0 := by omega
 have hbl : A.length + B.length ≤ 2000 := by omega
 clear hlen
 go_enter Try.func44, Try.ntmps44
 go_wp2_with fail
 generalize hW1 : ((w.alloc (.cells #[.slice (some ⟨b, o, none⟩) ps.length cv] 50)).alloc (.cells #[.int .i64 t.e, .int .i64 t.c, .int .i64 t.a] 77)).alloc (.cells #[.slice none 0 0] 50) = W1
 have hB1 : Below w.heap.size w W1 := by rw [← hW1]; exact ((oneB w _).alloc (by simp) _).alloc (by simp <;> omega) _
 have hV1 : Blk W1 w.heap.size #[.slice (some ⟨b, o, none⟩) ps.length cv] 50 := by rw [← hW1]; exact ((Blk.new w _ _).alloc _).alloc _
 have hT1 : Blk W1 (w.heap.size + 1) #[.int .i64 t.e, .int .i64 t.c, .int .i64 t.a] 77 := by rw [← hW1]; exact (Blk.new' _ _ _ (by simp)).alloc _
 have hR1 : Blk W1 (w.heap.size + 1 + 1) #[.slice none 0 0] 50 := by rw [← hW1]; exact Blk.new' _ _ _ (by simp)
 clear hW1
 refine (HF.out _ hB1).mono ?_
 rintro y w2 ⟨rfl, hb2⟩
 have hV2 := hV1.below hb2 hV1.lt
 have hT2 := hT1.below hb2 hT1.lt
 have hR2 := hR1.below hb2 hR1.lt
 have v0 : w2.cell? ⟨w.heap.size, 0, none⟩ = some (.slice (some ⟨b, o, none⟩) ps.length cv) := hV2.cell 0
 have t0 : w2.cell? ⟨w.heap.size + 1, 0, none⟩ = some (.int .i64 t.e) := hT2.cell 0
 have t1 : w2.cell? ⟨w.heap.size + 1, 1, none⟩ = some (.int .i64 t.c) := hT2.cell 1
 have t2 : w2.cell? ⟨w.heap.size + 1, 2, none⟩ = some (.int .i64 t.a) := hT2.cell 2
 have HB2 := Lib.hid (hB1.trans (hb2.mono hB1.size))
 have HR2 := Lib.hid hR2
 have HRW := Lib.hid (HR.out.kept HB2.out)
 have ha2 := HRW.out.take A.length (by omega)
 rw [HAT.out] at ha2
 have HA2 := Lib.hid ha2
 have HLR := Lib.hid hR2.lt
 clear hB1 hV1 hT1 hR1 hb2 hV2 hT2 hR2 ha2 HF
 go_wp2_with fail
 go_region
 go_wp2_with fail
 refine (concat_three w2 _ _ t A B HA2.out ?hB hbl _).mono ?_
 case hB =>
  rw [← HBD.out]
  have hlen : _ = _ := HLEN.out
  exact HRW.out.tail (A.length + 1) (by omega) (by omega) (by omega) (fun b' o' e h => by first | (cases e; simp; done) | (cases e; simp; rw [addAt]; done) | (cases e; simp; omega) | (subst e; simp; omega) | (subst e; simp; rw [addAt]; done) | omega)
 rintro y w3 ⟨v3, rfl, ho3, hb3⟩
 obtain ⟨p3, c3, hv3⟩ := ho3.form
 generalize (A ++ [t] ++ B).length = n3 at hv3
 subst hv3
 have hb3' : Below w2.heap.size w2 w3 := hb3
 have hres := HR2.out.below hb3' HLR.out
 have r0 : w3.cell? ⟨w.heap.size + 1 + 1, 0, none⟩ = some (.slice none 0 0) := hres.cell 0
 have fr0 := hres.free 0
 have lr := hres.lt
 have HO3 := Lib.hid ho3
 have HB := Lib.hid (HB2.out.trans (hb3'.mono HB2.out.size))
 have HR3 := Lib.hid hres
 clear ho3 hb3 hb3' hres
 go_wp2_with fail
 have hf := HR3.out.set 0 (.slice p3 n3 c3)
 refine bodyPost_ret (v := .agg #[.slice p3 n3 c3]) (by simp [results, Try.results44, go_sem, hf.cell 0]) rfl ⟨_, rfl,  (HO3.out.setLow (show w.heap.size + 1 + 1 < w2.heap.size + 1 from Nat.lt_succ_of_lt HLR.out) _).less (by have := HLR.out; omega), HB.out.setCell (p := ⟨w.heap.size + 1 + 1, 0, none⟩) (by show w.heap.size ≤ w.heap.size + 1 + 1; omega) _⟩
set_option maxHeartbeats 2000000 in
theorem with_nzc (w : World) (pv : Option Addr) (cv : Nat) (ps A B : List Pos) (t : Pos) (hr : PRow w (.slice pv ps.length cv) ps) (hA : Around t ps A [] B) (hn : ps.length ≤ 1000) (j0 : (t.a == 0) = true) (hcv : cv - A.length = 0) :
  Calls Try.prog 44 #[vecV (.slice pv ps.length cv), posV t.e t.c t.a] w fun x w' => ∃ v', x = .returned (vecV v') ∧ OwnP w' w.heap.size 77 v' (A ++ [] ++ B) ∧ Below w.heap.size w w' := by
 have HF := Lib.hid (fun (w' : World) (hb : Below w.heap.size w w') => find_any w' _ ps A [] B t (hr.kept hb) hA hn)
 have hall := hA.all
 have hlen : ps.length = A.length + 0 + B.length := by rw [hall]; simp
 have hAt : ps.take A.length = A := by rw [hall, List.append_assoc, List.take_left]
 have hBd : ps.drop (A.length + 0) = B := by rw [hall, List.drop_left' (by simp)]
 have hpc : ps.length ≤ cv := by obtain ⟨_, _, e, h, _⟩ := id hr; cases e; exact h
 have HLEN := Lib.hid hlen
 have HR := Lib.hid hr
 have HAT := Lib.hid hAt
 have HBD := Lib.hid hBd
 clear hr hA hall hAt hBd
 unfold vecV posV at *
 rw [show decide (([] : List Pos) ≠ []) = false by simp] at HF
 have hcap1 : ((A.length : Nat) : Int) ≤ (ps.length : Int) := by omega
 have hcap2 : (ps.length : Int) ≤ (cv : Int) := by omega
 have hcap3 : ((A.length : Nat) : Int) ≤ (cv : Int) := by omega
 have hcn : A.length ≤ cv := by omega
 have hbl : A.length + B.length ≤ 2000 := by omega
 clear hlen
 go_enter Try.func44, Try.ntmps44
 go_wp2_with fail
 generalize hW1 : ((w.alloc (.cells #[.slice pv ps.length cv] 50)).alloc (.cells #[.int .i64 t.e, .int .i64 t.c, .int .i64 t.a] 77)).alloc (.cells #[.slice none 0 0] 50) = W1
 have hB1 : Below w.heap.size w W1 := by rw [← hW1]; exact ((oneB w _).alloc (by simp) _).alloc (by simp <;> omega) _
 have hV1 : Blk W1 w.heap.size #[.slice pv ps.length cv] 50 := by rw [← hW1]; exact ((Blk.new w _ _).alloc _).alloc _
 have hT1 : Blk W1 (w.heap.size + 1) #[.int .i64 t.e, .int .i64 t.c, .int .i64 t.a] 77 := by rw [← hW1]; exact (Blk.new' _ _ _ (by simp)).alloc _
 have hR1 : Blk W1 (w.heap.size + 1 + 1) #[.slice none 0 0] 50 := by rw [← hW1]; exact Blk.new' _ _ _ (by simp)
 clear hW1
 refine (HF.out _ hB1).mono ?_
 rintro y w2 ⟨rfl, hb2⟩
 have hV2 := hV1.below hb2 hV1.lt
 have hT2 := hT1.below hb2 hT1.lt
 have hR2 := hR1.below hb2 hR1.lt
 have v0 : w2.cell? ⟨w.heap.size, 0, none⟩ = some (.slice pv ps.length cv) := hV2.cell 0
 have t0 : w2.cell? ⟨w.heap.size + 1, 0, none⟩ = some (.int .i64 t.e) := hT2.cell 0
 have t1 : w2.cell? ⟨w.heap.size + 1, 1, none⟩ = some (.int .i64 t.c) := hT2.cell 1
 have t2 : w2.cell? ⟨w.heap.size + 1, 2, none⟩ = some (.int .i64 t.a) := hT2.cell 2
 have HB2 := Lib.hid (hB1.trans (hb2.mono hB1.size))
 have HR2 := Lib.hid hR2
 have HRW := Lib.hid (HR.out.kept HB2.out)
 have ha2 := HRW.out.take A.length (by omega)
 rw [HAT.out] at ha2
 have HA2 := Lib.hid ha2
 have HLR := Lib.hid hR2.lt
 clear hB1 hV1 hT1 hR1 hb2 hV2 hT2 hR2 ha2 HF
 go_wp2_with fail
 go_region
 go_wp2_with fail
 refine (concat_two w2 _ _ A B HA2.out ?hB hbl).mono ?_
 case hB =>
  rw [← HBD.out]
  have hlen : _ = _ := HLEN.out
  exact HRW.out.tail (A.length + 0) (by omega) (by omega) (by omega) (fun b' o' e h => by first | (cases e; simp; done) | (cases e; simp; rw [addAt]; done) | (cases e; simp; omega) | (subst e; simp; omega) | (subst e; simp; rw [addAt]; done) | omega)
 rintro y w3 ⟨v3, rfl, ho3, hb3⟩
 obtain ⟨p3, c3, hv3⟩ := ho3.form
 generalize (A ++ B).length = n3 at hv3
 subst hv3
 have hb3' : Below w2.heap.size w2 w3 := hb3
 have hres := HR2.out.below hb3' HLR.out
 have r0 : w3.cell? ⟨w.heap.size + 1 + 1, 0, none⟩ = some (.slice none 0 0) := hres.cell 0
 have fr0 := hres.free 0
 have lr := hres.lt
 have HO3 := Lib.hid ho3
 have HB := Lib.hid (HB2.out.trans (hb3'.mono HB2.out.size))
 have HR3 := Lib.hid hres
 clear ho3 hb3 hb3' hres
 go_wp2_with fail
 have hf := HR3.out.set 0 (.slice p3 n3 c3)
 refine bodyPost_ret (v := .agg #[.slice p3 n3 c3]) (by simp [results, Try.results44, go_sem, hf.cell 0]) rfl ⟨_, rfl, by rw [List.append_nil]; exact (HO3.out.setLow (show w.heap.size + 1 + 1 < w2.heap.size + 1 from Nat.lt_succ_of_lt HLR.out) _).less (by have := HLR.out; omega), HB.out.setCell (p := ⟨w.heap.size + 1 + 1, 0, none⟩) (by show w.heap.size ≤ w.heap.size + 1 + 1; omega) _⟩
set_option maxHeartbeats 2000000 in
theorem with_nzo (w : World) (pv : Option Addr) (cv : Nat) (ps A B : List Pos) (t : Pos) (hr : PRow w (.slice pv ps.length cv) ps) (hA : Around t ps A [] B) (hn : ps.length ≤ 1000) (j0 : (t.a == 0) = true) (hcv : ¬ cv - A.length = 0) :
  Calls Try.prog 44 #[vecV (.slice pv ps.length cv), posV t.e t.c t.a] w fun x w' => ∃ v', x = .returned (vecV v') ∧ OwnP w' w.heap.size 77 v' (A ++ [] ++ B) ∧ Below w.heap.size w w' := by
 have HF := Lib.hid (fun (w' : World) (hb : Below w.heap.size w w') => find_any w' _ ps A [] B t (hr.kept hb) hA hn)
 have hall := hA.all
 have hlen : ps.length = A.length + 0 + B.length := by rw [hall]; simp
 have hAt : ps.take A.length = A := by rw [hall, List.append_assoc, List.take_left]
 have hBd : ps.drop (A.length + 0) = B := by rw [hall, List.drop_left' (by simp)]
 have hpc : ps.length ≤ cv := by obtain ⟨_, _, e, h, _⟩ := id hr; cases e; exact h
 have HLEN := Lib.hid hlen
 have HR := Lib.hid hr
 have HAT := Lib.hid hAt
 have HBD := Lib.hid hBd
 clear hr hA hall hAt hBd
 unfold vecV posV at *
 rw [show decide (([] : List Pos) ≠ []) = false by simp] at HF
 have hcap1 : ((A.length : Nat) : Int) ≤ (ps.length : Int) := by omega
 have hcap2 : (ps.length : Int) ≤ (cv : Int) := by omega
 have hcap3 : ((A.length : Nat) : Int) ≤ (cv : Int) := by omega
 have hcn : A.length ≤ cv := by omega
 have hbl : A.length + B.length ≤ 2000 := by omega
 clear hlen
 go_enter Try.func44, Try.ntmps44
 go_wp2_with fail
 generalize hW1 : ((w.alloc (.cells #[.slice pv ps.length cv] 50)).alloc (.cells #[.int .i64 t.e, .int .i64 t.c, .int .i64 t.a] 77)).alloc (.cells #[.slice none 0 0] 50) = W1
 have hB1 : Below w.heap.size w W1 := by rw [← hW1]; exact ((oneB w _).alloc (by simp) _).alloc (by simp <;> omega) _
 have hV1 : Blk W1 w.heap.size #[.slice pv ps.length cv] 50 := by rw [← hW1]; exact ((Blk.new w _ _).alloc _).alloc _
 have hT1 : Blk W1 (w.heap.size + 1) #[.int .i64 t.e, .int .i64 t.c, .int .i64 t.a] 77 := by rw [← hW1]; exact (Blk.new' _ _ _ (by simp)).alloc _
 have hR1 : Blk W1 (w.heap.size + 1 + 1) #[.slice none 0 0] 50 := by rw [← hW1]; exact Blk.new' _ _ _ (by simp)
 clear hW1
 refine (HF.out _ hB1).mono ?_
 rintro y w2 ⟨rfl, hb2⟩
 have hV2 := hV1.below hb2 hV1.lt
 have hT2 := hT1.below hb2 hT1.lt
 have hR2 := hR1.below hb2 hR1.lt
 have v0 : w2.cell? ⟨w.heap.size, 0, none⟩ = some (.slice pv ps.length cv) := hV2.cell 0
 have t0 : w2.cell? ⟨w.heap.size + 1, 0, none⟩ = some (.int .i64 t.e) := hT2.cell 0
 have t1 : w2.cell? ⟨w.heap.size + 1, 1, none⟩ = some (.int .i64 t.c) := hT2.cell 1
 have t2 : w2.cell? ⟨w.heap.size + 1, 2, none⟩ = some (.int .i64 t.a) := hT2.cell 2
 have HB2 := Lib.hid (hB1.trans (hb2.mono hB1.size))
 have HR2 := Lib.hid hR2
 have HRW := Lib.hid (HR.out.kept HB2.out)
 have ha2 := HRW.out.take A.length (by omega)
 rw [HAT.out] at ha2
 have HA2 := Lib.hid ha2
 have HLR := Lib.hid hR2.lt
 clear hB1 hV1 hT1 hR1 hb2 hV2 hT2 hR2 ha2 HF
 go_wp2_with fail
 go_region
 go_wp2_with fail
 refine (concat_two w2 _ _ A B HA2.out ?hB hbl).mono ?_
 case hB =>
  rw [← HBD.out]
  have hlen : _ = _ := HLEN.out
  exact HRW.out.tail (A.length + 0) (by omega) (by omega) (by omega) (fun b' o' e h => by first | (cases e; simp; done) | (cases e; simp; rw [addAt]; done) | (cases e; simp; omega) | (subst e; simp; omega) | (subst e; simp; rw [addAt]; done) | omega)
 rintro y w3 ⟨v3, rfl, ho3, hb3⟩
 obtain ⟨p3, c3, hv3⟩ := ho3.form
 generalize (A ++ B).length = n3 at hv3
 subst hv3
 have hb3' : Below w2.heap.size w2 w3 := hb3
 have hres := HR2.out.below hb3' HLR.out
 have r0 : w3.cell? ⟨w.heap.size + 1 + 1, 0, none⟩ = some (.slice none 0 0) := hres.cell 0
 have fr0 := hres.free 0
 have lr := hres.lt
 have HO3 := Lib.hid ho3
 have HB := Lib.hid (HB2.out.trans (hb3'.mono HB2.out.size))
 have HR3 := Lib.hid hres
 clear ho3 hb3 hb3' hres
 go_wp2_with fail
 have hf := HR3.out.set 0 (.slice p3 n3 c3)
 refine bodyPost_ret (v := .agg #[.slice p3 n3 c3]) (by simp [results, Try.results44, go_sem, hf.cell 0]) rfl ⟨_, rfl, by rw [List.append_nil]; exact (HO3.out.setLow (show w.heap.size + 1 + 1 < w2.heap.size + 1 from Nat.lt_succ_of_lt HLR.out) _).less (by have := HLR.out; omega), HB.out.setCell (p := ⟨w.heap.size + 1 + 1, 0, none⟩) (by show w.heap.size ≤ w.heap.size + 1 + 1; omega) _⟩
set_option maxHeartbeats 2000000 in
theorem with_nac (w : World) (pv : Option Addr) (cv : Nat) (ps A B : List Pos) (t : Pos) (hr : PRow w (.slice pv ps.length cv) ps) (hA : Around t ps A [] B) (hn : ps.length ≤ 1000) (j0 : (t.a == 0) = false) (hcv : cv - A.length = 0) :
  Calls Try.prog 44 #[vecV (.slice pv ps.length cv), posV t.e t.c t.a] w fun x w' => ∃ v', x = .returned (vecV v') ∧ OwnP w' w.heap.size 77 v' (A ++ [t] ++ B) ∧ Below w.heap.size w w' := by
 have HF := Lib.hid (fun (w' : World) (hb : Below w.heap.size w w') => find_any w' _ ps A [] B t (hr.kept hb) hA hn)
 have hall := hA.all
 have hlen : ps.length = A.length + 0 + B.length := by rw [hall]; simp
 have hAt : ps.take A.length = A := by rw [hall, List.append_assoc, List.take_left]
 have hBd : ps.drop (A.length + 0) = B := by rw [hall, List.drop_left' (by simp)]
 have hpc : ps.length ≤ cv := by obtain ⟨_, _, e, h, _⟩ := id hr; cases e; exact h
 have HLEN := Lib.hid hlen
 have HR := Lib.hid hr
 have HAT := Lib.hid hAt
 have HBD := Lib.hid hBd
 clear hr hA hall hAt hBd
 unfold vecV posV at *
 rw [show decide (([] : List Pos) ≠ []) = false by simp] at HF
 have hcap1 : ((A.length : Nat) : Int) ≤ (ps.length : Int) := by omega
 have hcap2 : (ps.length : Int) ≤ (cv : Int) := by omega
 have hcap3 : ((A.length : Nat) : Int) ≤ (cv : Int) := by omega
 have hcn : A.length ≤ cv := by omega
 have hbl : A.length + B.length ≤ 2000 := by omega
 clear hlen
 go_enter Try.func44, Try.ntmps44
 go_wp2_with fail
 generalize hW1 : ((w.alloc (.cells #[.slice pv ps.length cv] 50)).alloc (.cells #[.int .i64 t.e, .int .i64 t.c, .int .i64 t.a] 77)).alloc (.cells #[.slice none 0 0] 50) = W1
 have hB1 : Below w.heap.size w W1 := by rw [← hW1]; exact ((oneB w _).alloc (by simp) _).alloc (by simp <;> omega) _
 have hV1 : Blk W1 w.heap.size #[.slice pv ps.length cv] 50 := by rw [← hW1]; exact ((Blk.new w _ _).alloc _).alloc _
 have hT1 : Blk W1 (w.heap.size + 1) #[.int .i64 t.e, .int .i64 t.c, .int .i64 t.a] 77 := by rw [← hW1]; exact (Blk.new' _ _ _ (by simp)).alloc _
 have hR1 : Blk W1 (w.heap.size + 1 + 1) #[.slice none 0 0] 50 := by rw [← hW1]; exact Blk.new' _ _ _ (by simp)
 clear hW1
 refine (HF.out _ hB1).mono ?_
 rintro y w2 ⟨rfl, hb2⟩
 have hV2 := hV1.below hb2 hV1.lt
 have hT2 := hT1.below hb2 hT1.lt
 have hR2 := hR1.below hb2 hR1.lt
 have v0 : w2.cell? ⟨w.heap.size, 0, none⟩ = some (.slice pv ps.length cv) := hV2.cell 0
 have t0 : w2.cell? ⟨w.heap.size + 1, 0, none⟩ = some (.int .i64 t.e) := hT2.cell 0
 have t1 : w2.cell? ⟨w.heap.size + 1, 1, none⟩ = some (.int .i64 t.c) := hT2.cell 1
 have t2 : w2.cell? ⟨w.heap.size + 1, 2, none⟩ = some (.int .i64 t.a) := hT2.cell 2
 have HB2 := Lib.hid (hB1.trans (hb2.mono hB1.size))
 have HR2 := Lib.hid hR2
 have HRW := Lib.hid (HR.out.kept HB2.out)
 have ha2 := HRW.out.take A.length (by omega)
 rw [HAT.out] at ha2
 have HA2 := Lib.hid ha2
 have HLR := Lib.hid hR2.lt
 clear hB1 hV1 hT1 hR1 hb2 hV2 hT2 hR2 ha2 HF
 go_wp2_with fail
 go_region
 go_wp2_with fail
 refine (concat_three w2 _ _ t A B HA2.out ?hB hbl _).mono ?_
 case hB =>
  rw [← HBD.out]
  have hlen : _ = _ := HLEN.out
  exact HRW.out.tail (A.length + 0) (by omega) (by omega) (by omega) (fun b' o' e h => by first | (cases e; simp; done) | (cases e; simp; rw [addAt]; done) | (cases e; simp; omega) | (subst e; simp; omega) | (subst e; simp; rw [addAt]; done) | omega)
 rintro y w3 ⟨v3, rfl, ho3, hb3⟩
 obtain ⟨p3, c3, hv3⟩ := ho3.form
 generalize (A ++ [t] ++ B).length = n3 at hv3
 subst hv3
 have hb3' : Below w2.heap.size w2 w3 := hb3
 have hres := HR2.out.below hb3' HLR.out
 have r0 : w3.cell? ⟨w.heap.size + 1 + 1, 0, none⟩ = some (.slice none 0 0) := hres.cell 0
 have fr0 := hres.free 0
 have lr := hres.lt
 have HO3 := Lib.hid ho3
 have HB := Lib.hid (HB2.out.trans (hb3'.mono HB2.out.size))
 have HR3 := Lib.hid hres
 clear ho3 hb3 hb3' hres
 go_wp2_with fail
 have hf := HR3.out.set 0 (.slice p3 n3 c3)
 refine bodyPost_ret (v := .agg #[.slice p3 n3 c3]) (by simp [results, Try.results44, go_sem, hf.cell 0]) rfl ⟨_, rfl,  (HO3.out.setLow (show w.heap.size + 1 + 1 < w2.heap.size + 1 from Nat.lt_succ_of_lt HLR.out) _).less (by have := HLR.out; omega), HB.out.setCell (p := ⟨w.heap.size + 1 + 1, 0, none⟩) (by show w.heap.size ≤ w.heap.size + 1 + 1; omega) _⟩
set_option maxHeartbeats 2000000 in
theorem with_nao (w : World) (pv : Option Addr) (cv : Nat) (ps A B : List Pos) (t : Pos) (hr : PRow w (.slice pv ps.length cv) ps) (hA : Around t ps A [] B) (hn : ps.length ≤ 1000) (j0 : (t.a == 0) = false) (hcv : ¬ cv - A.length = 0) :
  Calls Try.prog 44 #[vecV (.slice pv ps.length cv), posV t.e t.c t.a] w fun x w' => ∃ v', x = .returned (vecV v') ∧ OwnP w' w.heap.size 77 v' (A ++ [t] ++ B) ∧ Below w.heap.size w w' := by
 have HF := Lib.hid (fun (w' : World) (hb : Below w.heap.size w w') => find_any w' _ ps A [] B t (hr.kept hb) hA hn)
 have hall := hA.all
 have hlen : ps.length = A.length + 0 + B.length := by rw [hall]; simp
 have hAt : ps.take A.length = A := by rw [hall, List.append_assoc, List.take_left]
 have hBd : ps.drop (A.length + 0) = B := by rw [hall, List.drop_left' (by simp)]
 have hpc : ps.length ≤ cv := by obtain ⟨_, _, e, h, _⟩ := id hr; cases e; exact h
 have HLEN := Lib.hid hlen
 have HR := Lib.hid hr
 have HAT := Lib.hid hAt
 have HBD := Lib.hid hBd
 clear hr hA hall hAt hBd
 unfold vecV posV at *
 rw [show decide (([] : List Pos) ≠ []) = false by simp] at HF
 have hcap1 : ((A.length : Nat) : Int) ≤ (ps.length : Int) := by omega
 have hcap2 : (ps.length : Int) ≤ (cv : Int) := by omega
 have hcap3 : ((A.length : Nat) : Int) ≤ (cv : Int) := by omega
 have hcn : A.length ≤ cv := by omega
 have hbl : A.length + B.length ≤ 2000 := by omega
 clear hlen
 go_enter Try.func44, Try.ntmps44
 go_wp2_with fail
 generalize hW1 : ((w.alloc (.cells #[.slice pv ps.length cv] 50)).alloc (.cells #[.int .i64 t.e, .int .i64 t.c, .int .i64 t.a] 77)).alloc (.cells #[.slice none 0 0] 50) = W1
 have hB1 : Below w.heap.size w W1 := by rw [← hW1]; exact ((oneB w _).alloc (by simp) _).alloc (by simp <;> omega) _
 have hV1 : Blk W1 w.heap.size #[.slice pv ps.length cv] 50 := by rw [← hW1]; exact ((Blk.new w _ _).alloc _).alloc _
 have hT1 : Blk W1 (w.heap.size + 1) #[.int .i64 t.e, .int .i64 t.c, .int .i64 t.a] 77 := by rw [← hW1]; exact (Blk.new' _ _ _ (by simp)).alloc _
 have hR1 : Blk W1 (w.heap.size + 1 + 1) #[.slice none 0 0] 50 := by rw [← hW1]; exact Blk.new' _ _ _ (by simp)
 clear hW1
 refine (HF.out _ hB1).mono ?_
 rintro y w2 ⟨rfl, hb2⟩
 have hV2 := hV1.below hb2 hV1.lt
 have hT2 := hT1.below hb2 hT1.lt
 have hR2 := hR1.below hb2 hR1.lt
 have v0 : w2.cell? ⟨w.heap.size, 0, none⟩ = some (.slice pv ps.length cv) := hV2.cell 0
 have t0 : w2.cell? ⟨w.heap.size + 1, 0, none⟩ = some (.int .i64 t.e) := hT2.cell 0
 have t1 : w2.cell? ⟨w.heap.size + 1, 1, none⟩ = some (.int .i64 t.c) := hT2.cell 1
 have t2 : w2.cell? ⟨w.heap.size + 1, 2, none⟩ = some (.int .i64 t.a) := hT2.cell 2
 have HB2 := Lib.hid (hB1.trans (hb2.mono hB1.size))
 have HR2 := Lib.hid hR2
 have HRW := Lib.hid (HR.out.kept HB2.out)
 have ha2 := HRW.out.take A.length (by omega)
 rw [HAT.out] at ha2
 have HA2 := Lib.hid ha2
 have HLR := Lib.hid hR2.lt
 clear hB1 hV1 hT1 hR1 hb2 hV2 hT2 hR2 ha2 HF
 go_wp2_with fail
 go_region
 go_wp2_with fail
 refine (concat_three w2 _ _ t A B HA2.out ?hB hbl _).mono ?_
 case hB =>
  rw [← HBD.out]
  have hlen : _ = _ := HLEN.out
  exact HRW.out.tail (A.length + 0) (by omega) (by omega) (by omega) (fun b' o' e h => by first | (cases e; simp; done) | (cases e; simp; rw [addAt]; done) | (cases e; simp; omega) | (subst e; simp; omega) | (subst e; simp; rw [addAt]; done) | omega)
 rintro y w3 ⟨v3, rfl, ho3, hb3⟩
 obtain ⟨p3, c3, hv3⟩ := ho3.form
 generalize (A ++ [t] ++ B).length = n3 at hv3
 subst hv3
 have hb3' : Below w2.heap.size w2 w3 := hb3
 have hres := HR2.out.below hb3' HLR.out
 have r0 : w3.cell? ⟨w.heap.size + 1 + 1, 0, none⟩ = some (.slice none 0 0) := hres.cell 0
 have fr0 := hres.free 0
 have lr := hres.lt
 have HO3 := Lib.hid ho3
 have HB := Lib.hid (HB2.out.trans (hb3'.mono HB2.out.size))
 have HR3 := Lib.hid hres
 clear ho3 hb3 hb3' hres
 go_wp2_with fail
 have hf := HR3.out.set 0 (.slice p3 n3 c3)
 refine bodyPost_ret (v := .agg #[.slice p3 n3 c3]) (by simp [results, Try.results44, go_sem, hf.cell 0]) rfl ⟨_, rfl,  (HO3.out.setLow (show w.heap.size + 1 + 1 < w2.heap.size + 1 from Nat.lt_succ_of_lt HLR.out) _).less (by have := HLR.out; omega), HB.out.setCell (p := ⟨w.heap.size + 1 + 1, 0, none⟩) (by show w.heap.size ≤ w.heap.size + 1 + 1; omega) _⟩
/-- A position put in, whatever was there. -/
theorem with_any (w : World) (v : Value) (ps A mid B : List Pos) (t : Pos) (hr : PRow w v ps) (hA : Around t ps A mid B) (hn : ps.length ≤ 1000) :
  Calls Try.prog 44 #[vecV v, posV t.e t.c t.a] w fun x w' => ∃ v', x = .returned (vecV v') ∧ OwnP w' w.heap.size 77 v' (A ++ (if t.a = 0 then [] else [t]) ++ B) ∧ Below w.heap.size w w' := by
 obtain ⟨pv, cv, rfl⟩ := hr.shape
 by_cases h0 : t.a = 0
 ·rw [if_pos h0]
  have j0 : (t.a == 0) = true := by simpa using h0
  rcases hA.there with rfl | ⟨q, rfl, _⟩
  ·by_cases hc : cv - A.length = 0
   ·exact with_nzc w pv cv ps A B t hr hA hn j0 hc
   ·exact with_nzo w pv cv ps A B t hr hA hn j0 hc
  ·by_cases hc : cv - A.length = 1
   ·exact with_fzc w pv cv ps A B q t hr hA hn j0 hc
   ·exact with_fzo w pv cv ps A B q t hr hA hn j0 hc
 ·rw [if_neg h0]
  have j0 : (t.a == 0) = false := by simpa using h0
  rcases hA.there with rfl | ⟨q, rfl, _⟩
  ·by_cases hc : cv - A.length = 0
   ·exact with_nac w pv cv ps A B t hr hA hn j0 hc
   ·exact with_nao w pv cv ps A B t hr hA hn j0 hc
  ·by_cases hc : cv - A.length = 1
   ·exact with_fac w pv cv ps A B q t hr hA hn j0 hc
   ·exact with_fao w pv cv ps A B q t hr hA hn j0 hc
end Go.Proofs.Ytillckkohdjkbaa
namespace Go.Proofs.Ytillckkohdjkbaa
open Go.RowKit
theorem add_any (a b : Int) (w : World) (ha : Fits a) (hb : Fits b) :
  Calls Try.prog 43 #[.int .i64 a, .int .i64 b] w fun e w' => e = .returned (.tuple #[.int .i64 (sumN (a + b)), .int .i64 (sumE (a + b))]) ∧ Below w.heap.size w w' := by
 have hrow := Row.two w 2 a b 2 (Nat.le_refl _)
 have h64 : All64 [a, b] := by intro x hx; simp at hx; unfold Fits at ha hb; rcases hx with rfl | rfl <;> omega
 have hs : Hid ([a, b].sum = a + b) := by show _ = _; simp
 go_enter Try.func43, Try.ntmps43
 go_wp2_with (go_at_call 28; go_must (refine (sum_any _ [a, b] _ (by simp) h64 hrow).mono ?_; rintro e w1 ⟨rfl, rfl⟩; rw [hs.out]))
 go_ret2
 exact ⟨rfl, (Below.refl _ _).alloc (Nat.le_refl _) _⟩

end Go.Proofs.Ytillckkohdjkbaa
namespace Go.Proofs.Ytillckkohdjkbaa
open Go.RowKit
/-- Out of what the call takes. -/
def OutEC (e c : Int) : Prop := e < 0 ∨ 8 ≤ e ∨ c < 0 ∨ 8 ≤ c
instance (e c : Int) : Decidable (OutEC e c) := by unfold OutEC; infer_instance
def addE (e c m a : Int) : Int := if OutEC e c then 1 else sumE (m + a)
def addL (ps A B : List Pos) (e c m a : Int) : List Pos := if OutEC e c then ps else if Fits (m + a) then A ++ (if m + a = 0 then [] else [⟨e, c, m + a⟩]) ++ B else ps
theorem Around.other {e c x y : Int} {ps A mid B : List Pos} (h : Around ⟨e, c, x⟩ ps A mid B) : Around ⟨e, c, y⟩ ps A mid B := ⟨h.all, h.ahead, h.behind, h.there⟩
def AddPost (w : World) (ps A mid B : List Pos) (e c a : Int) (x : Ending) (w' : World) : Prop :=
 ∃ v', x = .returned (.tuple #[vecV v', .int .i64 (addE e c (midA mid) a)]) ∧ OwnP w' w.heap.size 77 v' (addL ps A B e c (midA mid) a) ∧ Below w.heap.size w w'
set_option maxHeartbeats 4000000 in
set_option maxRecDepth 100000 in
theorem add_o1 (w : World) (v : Value) (ps A mid B : List Pos) (e c a : Int) (hr : PRow w v ps) (hn : ps.length ≤ 1000) (h1 : e < 0) :
  Calls Try.prog 27 #[vecV v, .int .i64 e, .int .i64 c, .int .i64 a] w (AddPost w ps A mid B e c a) := by
 obtain ⟨pv, cv, rfl⟩ := hr.shape
 have hE : addE e c (midA mid) a = 1 := if_pos (.inl h1)
 have hL : addL ps A B e c (midA mid) a = ps := if_pos (.inl h1)
 unfold AddPost
 rw [hE, hL]
 clear hE hL
 have hW : Below w.heap.size w ((w.alloc (.cells #[.slice pv ps.length cv] 50)).alloc (.cells #[.slice none 0 0] 50)) := (oneB w _).alloc (by simp) _
 have HW := Lib.hid hW
 have HCL := Lib.hid (fun (w' : World) (hb : Below w.heap.size w w') => clone_vec w' _ ps (hr.kept hb) hn)
 have HRS := Lib.hid (Blk.new' (w.alloc (.cells #[.slice pv ps.length cv] 50)) #[.slice none 0 0] 50 (b := w.heap.size + 1) (by simp))
 have HVS := Lib.hid ((Blk.new w #[.slice pv ps.length cv] 50).alloc (.cells #[.slice none 0 0] 50))
 clear hW
 clear hr
 unfold vecV at *
 go_enter Try.func27, Try.ntmps27
 go_wp2_with fail
 refine (HCL.out _ HW.out).mono ?_
 rintro y w3 ⟨v3, rfl, ho3, hb3⟩
 obtain ⟨p3, c3, hv3⟩ := ho3.form
 generalize (ps).length = n3 at hv3
 subst hv3
 have hres := HRS.out.below hb3 HRS.out.lt
 have r0 : w3.cell? ⟨w.heap.size + 1, 0, none⟩ = some (.slice none 0 0) := hres.cell 0
 have fr0 := hres.free 0
 have lr := hres.lt
 have HO3 := Lib.hid ho3
 have HB := ktq HW hb3
 have HR3 := Lib.hid hres
 have HLT := Lib.hid HRS.out.lt
 clear ho3 hb3 hres
 go_wp2_with fail
 have hf := HR3.out.set 0 (.slice p3 n3 c3)
 refine bodyPost_ret (v := .tuple #[.agg #[.slice p3 n3 c3], .int .i64 (1)]) (by simp [results, Try.results27, go_sem, hf.cell 0]) rfl ⟨_, rfl, (HO3.out.setLow (show w.heap.size + 1 < _ from HLT.out) _).less (Nat.le_trans (Nat.le_succ _) (Nat.le_of_lt HLT.out)), HB.out.setCell (p := ⟨w.heap.size + 1, 0, none⟩) (Nat.le_succ _) _⟩
set_option maxHeartbeats 4000000 in
set_option maxRecDepth 100000 in
theorem add_o2 (w : World) (v : Value) (ps A mid B : List Pos) (e c a : Int) (hr : PRow w v ps) (hn : ps.length ≤ 1000) (h1 : 0 ≤ e) (h2 : 8 ≤ e) :
  Calls Try.prog 27 #[vecV v, .int .i64 e, .int .i64 c, .int .i64 a] w (AddPost w ps A mid B e c a) := by
 obtain ⟨pv, cv, rfl⟩ := hr.shape
 have hE : addE e c (midA mid) a = 1 := if_pos (.inr (.inl h2))
 have hL : addL ps A B e c (midA mid) a = ps := if_pos (.inr (.inl h2))
 unfold AddPost
 rw [hE, hL]
 clear hE hL
 have hW : Below w.heap.size w ((w.alloc (.cells #[.slice pv ps.length cv] 50)).alloc (.cells #[.slice none 0 0] 50)) := (oneB w _).alloc (by simp) _
 have HW := Lib.hid hW
 have HCL := Lib.hid (fun (w' : World) (hb : Below w.heap.size w w') => clone_vec w' _ ps (hr.kept hb) hn)
 have HRS := Lib.hid (Blk.new' (w.alloc (.cells #[.slice pv ps.length cv] 50)) #[.slice none 0 0] 50 (b := w.heap.size + 1) (by simp))
 have HVS := Lib.hid ((Blk.new w #[.slice pv ps.length cv] 50).alloc (.cells #[.slice none 0 0] 50))
 clear hW
 clear hr
 unfold vecV at *
 go_enter Try.func27, Try.ntmps27
 go_wp2_with fail
 refine (HCL.out _ HW.out).mono ?_
 rintro y w3 ⟨v3, rfl, ho3, hb3⟩
 obtain ⟨p3, c3, hv3⟩ := ho3.form
 generalize (ps).length = n3 at hv3
 subst hv3
 have hres := HRS.out.below hb3 HRS.out.lt
 have r0 : w3.cell? ⟨w.heap.size + 1, 0, none⟩ = some (.slice none 0 0) := hres.cell 0
 have fr0 := hres.free 0
 have lr := hres.lt
 have HO3 := Lib.hid ho3
 have HB := ktq HW hb3
 have HR3 := Lib.hid hres
 have HLT := Lib.hid HRS.out.lt
 clear ho3 hb3 hres
 go_wp2_with fail
 have hf := HR3.out.set 0 (.slice p3 n3 c3)
 refine bodyPost_ret (v := .tuple #[.agg #[.slice p3 n3 c3], .int .i64 (1)]) (by simp [results, Try.results27, go_sem, hf.cell 0]) rfl ⟨_, rfl, (HO3.out.setLow (show w.heap.size + 1 < _ from HLT.out) _).less (Nat.le_trans (Nat.le_succ _) (Nat.le_of_lt HLT.out)), HB.out.setCell (p := ⟨w.heap.size + 1, 0, none⟩) (Nat.le_succ _) _⟩
set_option maxHeartbeats 4000000 in
set_option maxRecDepth 100000 in
theorem add_o3 (w : World) (v : Value) (ps A mid B : List Pos) (e c a : Int) (hr : PRow w v ps) (hn : ps.length ≤ 1000) (h1 : 0 ≤ e) (h2 : e < 8) (h3 : c < 0) :
  Calls Try.prog 27 #[vecV v, .int .i64 e, .int .i64 c, .int .i64 a] w (AddPost w ps A mid B e c a) := by
 obtain ⟨pv, cv, rfl⟩ := hr.shape
 have hE : addE e c (midA mid) a = 1 := if_pos (.inr (.inr (.inl h3)))
 have hL : addL ps A B e c (midA mid) a = ps := if_pos (.inr (.inr (.inl h3)))
 unfold AddPost
 rw [hE, hL]
 clear hE hL
 have hW : Below w.heap.size w ((w.alloc (.cells #[.slice pv ps.length cv] 50)).alloc (.cells #[.slice none 0 0] 50)) := (oneB w _).alloc (by simp) _
 have HW := Lib.hid hW
 have HCL := Lib.hid (fun (w' : World) (hb : Below w.heap.size w w') => clone_vec w' _ ps (hr.kept hb) hn)
 have HRS := Lib.hid (Blk.new' (w.alloc (.cells #[.slice pv ps.length cv] 50)) #[.slice none 0 0] 50 (b := w.heap.size + 1) (by simp))
 have HVS := Lib.hid ((Blk.new w #[.slice pv ps.length cv] 50).alloc (.cells #[.slice none 0 0] 50))
 clear hW
 clear hr
 unfold vecV at *
 go_enter Try.func27, Try.ntmps27
 go_wp2_with fail
 refine (HCL.out _ HW.out).mono ?_
 rintro y w3 ⟨v3, rfl, ho3, hb3⟩
 obtain ⟨p3, c3, hv3⟩ := ho3.form
 generalize (ps).length = n3 at hv3
 subst hv3
 have hres := HRS.out.below hb3 HRS.out.lt
 have r0 : w3.cell? ⟨w.heap.size + 1, 0, none⟩ = some (.slice none 0 0) := hres.cell 0
 have fr0 := hres.free 0
 have lr := hres.lt
 have HO3 := Lib.hid ho3
 have HB := ktq HW hb3
 have HR3 := Lib.hid hres
 have HLT := Lib.hid HRS.out.lt
 clear ho3 hb3 hres
 go_wp2_with fail
 have hf := HR3.out.set 0 (.slice p3 n3 c3)
 refine bodyPost_ret (v := .tuple #[.agg #[.slice p3 n3 c3], .int .i64 (1)]) (by simp [results, Try.results27, go_sem, hf.cell 0]) rfl ⟨_, rfl, (HO3.out.setLow (show w.heap.size + 1 < _ from HLT.out) _).less (Nat.le_trans (Nat.le_succ _) (Nat.le_of_lt HLT.out)), HB.out.setCell (p := ⟨w.heap.size + 1, 0, none⟩) (Nat.le_succ _) _⟩
set_option maxHeartbeats 4000000 in
set_option maxRecDepth 100000 in
theorem add_o4 (w : World) (v : Value) (ps A mid B : List Pos) (e c a : Int) (hr : PRow w v ps) (hn : ps.length ≤ 1000) (h1 : 0 ≤ e) (h2 : e < 8) (h3 : 0 ≤ c) (h4 : 8 ≤ c) :
  Calls Try.prog 27 #[vecV v, .int .i64 e, .int .i64 c, .int .i64 a] w (AddPost w ps A mid B e c a) := by
 obtain ⟨pv, cv, rfl⟩ := hr.shape
 have hE : addE e c (midA mid) a = 1 := if_pos (.inr (.inr (.inr h4)))
 have hL : addL ps A B e c (midA mid) a = ps := if_pos (.inr (.inr (.inr h4)))
 unfold AddPost
 rw [hE, hL]
 clear hE hL
 have hW : Below w.heap.size w ((w.alloc (.cells #[.slice pv ps.length cv] 50)).alloc (.cells #[.slice none 0 0] 50)) := (oneB w _).alloc (by simp) _
 have HW := Lib.hid hW
 have HCL := Lib.hid (fun (w' : World) (hb : Below w.heap.size w w') => clone_vec w' _ ps (hr.kept hb) hn)
 have HRS := Lib.hid (Blk.new' (w.alloc (.cells #[.slice pv ps.length cv] 50)) #[.slice none 0 0] 50 (b := w.heap.size + 1) (by simp))
 have HVS := Lib.hid ((Blk.new w #[.slice pv ps.length cv] 50).alloc (.cells #[.slice none 0 0] 50))
 clear hW
 clear hr
 unfold vecV at *
 go_enter Try.func27, Try.ntmps27
 go_wp2_with fail
 refine (HCL.out _ HW.out).mono ?_
 rintro y w3 ⟨v3, rfl, ho3, hb3⟩
 obtain ⟨p3, c3, hv3⟩ := ho3.form
 generalize (ps).length = n3 at hv3
 subst hv3
 have hres := HRS.out.below hb3 HRS.out.lt
 have r0 : w3.cell? ⟨w.heap.size + 1, 0, none⟩ = some (.slice none 0 0) := hres.cell 0
 have fr0 := hres.free 0
 have lr := hres.lt
 have HO3 := Lib.hid ho3
 have HB := ktq HW hb3
 have HR3 := Lib.hid hres
 have HLT := Lib.hid HRS.out.lt
 clear ho3 hb3 hres
 go_wp2_with fail
 have hf := HR3.out.set 0 (.slice p3 n3 c3)
 refine bodyPost_ret (v := .tuple #[.agg #[.slice p3 n3 c3], .int .i64 (1)]) (by simp [results, Try.results27, go_sem, hf.cell 0]) rfl ⟨_, rfl, (HO3.out.setLow (show w.heap.size + 1 < _ from HLT.out) _).less (Nat.le_trans (Nat.le_succ _) (Nat.le_of_lt HLT.out)), HB.out.setCell (p := ⟨w.heap.size + 1, 0, none⟩) (Nat.le_succ _) _⟩
set_option maxHeartbeats 4000000 in
set_option maxRecDepth 100000 in
theorem add_no (w : World) (v : Value) (ps A mid B : List Pos) (e c a : Int) (hr : PRow w v ps) (hA : Around ⟨e, c, 0⟩ ps A mid B) (hn : ps.length ≤ 1000) (hm : Fits (midA mid)) (ha : Fits a) (h1 : 0 ≤ e) (h2 : e < 8) (h3 : 0 ≤ c) (h4 : c < 8) (hs : ¬ Fits (midA mid + a)) :
  Calls Try.prog 27 #[vecV v, .int .i64 e, .int .i64 c, .int .i64 a] w (AddPost w ps A mid B e c a) := by
 obtain ⟨pv, cv, rfl⟩ := hr.shape
 have hno : ¬ OutEC e c := by unfold OutEC; omega
 have hE : addE e c (midA mid) a = 10 := (if_neg hno).trans (sumE_no hs)
 have hL : addL ps A B e c (midA mid) a = ps := (if_neg hno).trans (if_neg hs)
 unfold AddPost
 rw [hE, hL]
 clear hE hL hno
 have hW : Below w.heap.size w ((w.alloc (.cells #[.slice pv ps.length cv] 50)).alloc (.cells #[.slice none 0 0] 50)) := (oneB w _).alloc (by simp) _
 have HW := Lib.hid hW
 have HCL := Lib.hid (fun (w' : World) (hb : Below w.heap.size w w') => clone_vec w' _ ps (hr.kept hb) hn)
 have HRS := Lib.hid (Blk.new' (w.alloc (.cells #[.slice pv ps.length cv] 50)) #[.slice none 0 0] 50 (b := w.heap.size + 1) (by simp))
 have HVS := Lib.hid ((Blk.new w #[.slice pv ps.length cv] 50).alloc (.cells #[.slice none 0 0] 50))
 clear hW
 have HOF := Lib.hid (fun (w' : World) (hb : Below w.heap.size w w') => of_any w' _ ps A mid B e c (hr.kept hb) hA hn)
 have HAD := Lib.hid (fun (w' : World) => add_any (midA mid) a w' hm ha)
 rw [sumN_no hs, sumE_no hs] at HAD
 clear hr hA hm ha hs
 generalize midA mid = m at *
 unfold vecV at *
 go_enter Try.func27, Try.ntmps27
 go_wp2_with fail
 refine (HOF.out _ HW.out).mono ?_
 rintro y wa ⟨rfl, hba⟩
 have hrs := HRS.out.below hba HRS.out.lt
 have hvs := HVS.out.below hba HVS.out.lt
 have HBA := ktq HW hba
 clear hba
 go_wp2_with fail
 refine (HAD.out wa).mono ?_
 rintro y wb ⟨rfl, hbb⟩
 have HRB := Lib.hid (hrs.below hbb hrs.lt)
 have hvb := hvs.below hbb hvs.lt
 have v0 : wb.cell? ⟨w.heap.size, 0, none⟩ = some (.slice pv ps.length cv) := hvb.cell 0
 have HBB := ktq HBA hbb
 clear hrs hvs hbb hvb
 go_wp2_with fail
 refine (HCL.out _ HBB.out).mono ?_
 rintro y w3 ⟨v3, rfl, ho3, hb3⟩
 obtain ⟨p3, c3, hv3⟩ := ho3.form
 generalize (ps).length = n3 at hv3
 subst hv3
 have hres := HRB.out.below hb3 HRB.out.lt
 have r0 : w3.cell? ⟨w.heap.size + 1, 0, none⟩ = some (.slice none 0 0) := hres.cell 0
 have fr0 := hres.free 0
 have lr := hres.lt
 have HO3 := Lib.hid ho3
 have HB := ktq HBB hb3
 have HR3 := Lib.hid hres
 have HLT := Lib.hid HRB.out.lt
 clear ho3 hb3 hres
 go_wp2_with fail
 have hf := HR3.out.set 0 (.slice p3 n3 c3)
 refine bodyPost_ret (v := .tuple #[.agg #[.slice p3 n3 c3], .int .i64 (10)]) (by simp [results, Try.results27, go_sem, hf.cell 0]) rfl ⟨_, rfl, (HO3.out.setLow (show w.heap.size + 1 < _ from HLT.out) _).less (Nat.le_trans (Nat.le_succ _) (Nat.le_of_lt HLT.out)), HB.out.setCell (p := ⟨w.heap.size + 1, 0, none⟩) (Nat.le_succ _) _⟩
set_option maxHeartbeats 4000000 in
set_option maxRecDepth 100000 in
theorem add_yes (w : World) (v : Value) (ps A mid B : List Pos) (e c a : Int) (hr : PRow w v ps) (hA : Around ⟨e, c, 0⟩ ps A mid B) (hn : ps.length ≤ 1000) (hm : Fits (midA mid)) (ha : Fits a) (h1 : 0 ≤ e) (h2 : e < 8) (h3 : 0 ≤ c) (h4 : c < 8) (hs : Fits (midA mid + a)) :
  Calls Try.prog 27 #[vecV v, .int .i64 e, .int .i64 c, .int .i64 a] w (AddPost w ps A mid B e c a) := by
 obtain ⟨pv, cv, rfl⟩ := hr.shape
 have hno : ¬ OutEC e c := by unfold OutEC; omega
 have hE : addE e c (midA mid) a = 0 := (if_neg hno).trans (sumE_yes hs)
 have hL : addL ps A B e c (midA mid) a = A ++ (if midA mid + a = 0 then [] else [⟨e, c, midA mid + a⟩]) ++ B := (if_neg hno).trans (if_pos hs)
 unfold AddPost
 rw [hE, hL]
 clear hE hL hno
 have hW : Below w.heap.size w ((w.alloc (.cells #[.slice pv ps.length cv] 50)).alloc (.cells #[.slice none 0 0] 50)) := (oneB w _).alloc (by simp) _
 have HW := Lib.hid hW
 have HCL := Lib.hid (fun (w' : World) (hb : Below w.heap.size w w') => clone_vec w' _ ps (hr.kept hb) hn)
 have HRS := Lib.hid (Blk.new' (w.alloc (.cells #[.slice pv ps.length cv] 50)) #[.slice none 0 0] 50 (b := w.heap.size + 1) (by simp))
 have HVS := Lib.hid ((Blk.new w #[.slice pv ps.length cv] 50).alloc (.cells #[.slice none 0 0] 50))
 clear hW
 have HOF := Lib.hid (fun (w' : World) (hb : Below w.heap.size w w') => of_any w' _ ps A mid B e c (hr.kept hb) hA hn)
 have HWI := Lib.hid (fun (w' : World) (hb : Below w.heap.size w w') => with_any w' _ ps A mid B ⟨e, c, midA mid + a⟩ (hr.kept hb) hA.other hn)
 dsimp only at HWI
 generalize A ++ (if midA mid + a = 0 then [] else [Pos.mk e c (midA mid + a)]) ++ B = Lx at HWI ⊢
 have HAD := Lib.hid (fun (w' : World) => add_any (midA mid) a w' hm ha)
 rw [sumN_yes hs, sumE_yes hs] at HAD
 clear hr hA hm ha hs
 generalize midA mid = m at *
 unfold vecV posV at *
 go_enter Try.func27, Try.ntmps27
 go_wp2_with fail
 refine (HOF.out _ HW.out).mono ?_
 rintro y wa ⟨rfl, hba⟩
 have hrs := HRS.out.below hba HRS.out.lt
 have hvs := HVS.out.below hba HVS.out.lt
 have HBA := ktq HW hba
 clear hba
 go_wp2_with fail
 refine (HAD.out wa).mono ?_
 rintro y wb ⟨rfl, hbb⟩
 have HRB := Lib.hid (hrs.below hbb hrs.lt)
 have hvb := hvs.below hbb hvs.lt
 have v0 : wb.cell? ⟨w.heap.size, 0, none⟩ = some (.slice pv ps.length cv) := hvb.cell 0
 have HBB := ktq HBA hbb
 clear hrs hvs hbb hvb
 go_wp2_with fail
 refine (HWI.out _ HBB.out).mono ?_
 rintro y w3 ⟨v3, rfl, ho3, hb3⟩
 obtain ⟨p3, c3, hv3⟩ := ho3.form
 generalize (Lx).length = n3 at hv3
 subst hv3
 have hres := HRB.out.below hb3 HRB.out.lt
 have r0 : w3.cell? ⟨w.heap.size + 1, 0, none⟩ = some (.slice none 0 0) := hres.cell 0
 have fr0 := hres.free 0
 have lr := hres.lt
 have HO3 := Lib.hid ho3
 have HB := ktq HBB hb3
 have HR3 := Lib.hid hres
 have HLT := Lib.hid HRB.out.lt
 clear ho3 hb3 hres
 go_wp2_with fail
 have hf := HR3.out.set 0 (.slice p3 n3 c3)
 refine bodyPost_ret (v := .tuple #[.agg #[.slice p3 n3 c3], .int .i64 (0)]) (by simp [results, Try.results27, go_sem, hf.cell 0]) rfl ⟨_, rfl, (HO3.out.setLow (show w.heap.size + 1 < _ from HLT.out) _).less (Nat.le_trans (Nat.le_succ _) (Nat.le_of_lt HLT.out)), HB.out.setCell (p := ⟨w.heap.size + 1, 0, none⟩) (Nat.le_succ _) _⟩
/-- Anything put to a vector. -/
theorem vadd_any (w : World) (v : Value) (ps A mid B : List Pos) (e c a : Int) (hr : PRow w v ps) (hA : Around ⟨e, c, 0⟩ ps A mid B) (hn : ps.length ≤ 1000) (hm : Fits (midA mid)) (ha : Fits a) :
  Calls Try.prog 27 #[vecV v, .int .i64 e, .int .i64 c, .int .i64 a] w (AddPost w ps A mid B e c a) := by
 by_cases h1 : e < 0
 ·exact add_o1 w v ps A mid B e c a hr hn h1
 by_cases h2 : 8 ≤ e
 ·exact add_o2 w v ps A mid B e c a hr hn (by omega) h2
 by_cases h3 : c < 0
 ·exact add_o3 w v ps A mid B e c a hr hn (by omega) (by omega) h3
 by_cases h4 : 8 ≤ c
 ·exact add_o4 w v ps A mid B e c a hr hn (by omega) (by omega) (by omega) h4
 by_cases hs : Fits (midA mid + a)
 ·exact add_yes w v ps A mid B e c a hr hA hn hm ha (by omega) (by omega) (by omega) (by omega) hs
 ·exact add_no w v ps A mid B e c a hr hA hn hm ha (by omega) (by omega) (by omega) (by omega) hs
end Go.Proofs.Ytillckkohdjkbaa
namespace Go.Proofs.Ytillckkohdjkbaa
open Go.RowKit
structure Bk where
 me : Int
 p : Option Addr
 n : Nat
 c : Nat
 q : Option Addr
 a : Nat
 b : Nat
 xs : List Itm
def Bk.cells (x : Bk) : List Value := [.int .i64 x.me, .slice x.p x.n x.c, .slice x.q x.a x.b]
def Bk.v (x : Bk) : Value := bookV x.me (.slice x.p x.n x.c) (.slice x.q x.a x.b)
def encB : Enc Bk := ⟨3, Bk.cells, by decide, fun _ => rfl, by intro x u hu; simp [Bk.cells] at hu; rcases hu with rfl | rfl | rfl <;> rfl⟩
structure Bk.In (x : Bk) (w : World) : Prop where
 row : TRow encI w (.slice x.p x.n x.c) x.xs
 len : x.xs.length = x.n
 small : x.xs.length ≤ 2000
 ok : Okx x.xs
theorem Bk.In.kept {x : Bk} {w w' : World} (h : x.In w) (hb : Below w.heap.size w w') : x.In w' := ⟨h.row.kept hb, h.len, h.small, h.ok⟩
def bk0 : Bk := ⟨0, none, 0, 0, none, 0, 0, []⟩
def pairOk (cur : Int) (b c : Bk) : Bool := decide (b.me = c.me) || (alikeB b.me c.me cur b.xs c.xs && alikeB c.me b.me cur c.xs b.xs)
def evenB (cur : Int) (bs : List Bk) : Bool := (List.range bs.length).all fun i => (List.range i).all fun j => pairOk cur (bs.getD i bk0) (bs.getD j bk0)
theorem evenB_yes {cur : Int} {bs : List Bk} (h : ∀ i (hi : i < bs.length) j (hj : j < i), pairOk cur bs[i] bs[j] = true) : evenB cur bs = true := by
 unfold evenB
 rw [List.all_eq_true]
 intro i hi
 have hi := List.mem_range.1 hi
 rw [List.all_eq_true]
 intro j hj
 have hj := List.mem_range.1 hj
 rw [List.getD_eq_getElem?_getD, List.getElem?_eq_getElem hi, List.getD_eq_getElem?_getD, List.getElem?_eq_getElem (show j < bs.length by omega)]
 exact h i hi j hj
theorem evenB_no {cur : Int} {bs : List Bk} {i j : Nat} (hi : i < bs.length) (hj : j < i) (h : pairOk cur bs[i] (bs[j]'(by omega)) = false) : evenB cur bs = false := by
 cases he : evenB cur bs
 ·rfl
 ·unfold evenB at he
  rw [List.all_eq_true] at he
  have h1 := he i (List.mem_range.2 hi)
  rw [List.all_eq_true] at h1
  have h2 := h1 j (List.mem_range.2 hj)
  rw [List.getD_eq_getElem?_getD, List.getElem?_eq_getElem hi, List.getD_eq_getElem?_getD, List.getElem?_eq_getElem (show j < bs.length by omega), Option.getD_some, Option.getD_some, h] at h2
  cases h2
end Go.Proofs.Ytillckkohdjkbaa
namespace Go.Proofs.Ytillckkohdjkbaa
open Go.RowKit
set_option linter.unusedSimpArgs false in
set_option maxHeartbeats 4000000 in
set_option maxRecDepth 100000 in
theorem even_any (w : World) (cur : Int) (v : Value) (bs : List Bk) (hr : TRow encB w v bs) (hin : ∀ b ∈ bs, b.In w) (hn : bs.length ≤ 100) :
  Calls Try.prog 10 #[.int .i64 cur, v] w fun e w' => e = .returned (.bool (evenB cur bs)) ∧ Below w.heap.size w w' := by
 obtain ⟨p, c, rfl⟩ := hr.shape
 have hcap := hr.cap
 have HR := Lib.hid hr
 have HIN := Lib.hid hin
 clear hr hin
 have HAL := Lib.hid (fun (x y : Bk) (hx : x ∈ bs) (hy : y ∈ bs) (W : World) (h : Below w.heap.size w W) => alike_any W x.me y.me cur x.p x.q y.p y.q x.n x.c x.a x.b y.n y.c y.a y.b x.xs y.xs ((HIN.out x hx).row.kept h) ((HIN.out y hy).row.kept h) (HIN.out x hx).len (HIN.out y hy).len (HIN.out x hx).small (HIN.out y hy).small (HIN.out x hx).ok (HIN.out y hy).ok)
 unfold bookV at HAL
 generalize hl : bs.length = n at *
 have HL := Lib.hid hl
 clear hl
 go_enter Try.func10, Try.ntmps10
 go_wp2_with fail
 go_loopw [11] (fun i wr => ∃ k : Nat, k ≤ n ∧ i = .int .i64 k ∧ Hid (Below w.heap.size w wr ∧ ∀ i' (h1 : i' < bs.length) j' (h2 : j' < i'), i' < k → pairOk cur bs[i'] (bs[j']'(by omega)) = true)) (fun i _ => n - (intOf i).toNat)
 case atStart => exact ⟨0, by omega, rfl, ⟨Below.refl _ _, fun _ _ _ _ h => by omega⟩⟩
 case round =>
  obtain ⟨k, hk, rfl, HB⟩ := hrel
  by_cases hlt : k < n
  ·have hkl : k < bs.length := by rw [HL.out]; exact hlt
   have hltI : (k : Int) < (n : Int) := by omega
   have hkcI : (k : Int) ≤ (c : Int) := by omega
   have hkc : k ≤ c := by omega
   obtain ⟨b, o, rfl, hbl, hcs⟩ := (HR.out.kept HB.out.1).at_ k hkl
   obtain ⟨x, hx⟩ : ∃ x, bs[k] = x := ⟨_, rfl⟩
   rw [hx] at hcs
   have HBK := Lib.hid hx
   have HXM : Hid (x ∈ bs) := by show _ ∈ _; rw [← hx]; exact List.getElem_mem hkl
   clear hx
   have c0 : wr.cell? ⟨b, o + k * 3, none⟩ = some (.int .i64 x.me) := hcs 0 (by decide)
   have c1 : wr.cell? ⟨b, o + k * 3 + 1, none⟩ = some (.slice x.p x.n x.c) := hcs 1 (by decide)
   have c2 : wr.cell? ⟨b, o + k * 3 + 2, none⟩ = some (.slice x.q x.a x.b) := hcs 2 (by decide)
   have HX1 := Lib.hid (Blk.new wr #[.int .i64 x.me, .slice x.p x.n x.c, .slice x.q x.a x.b] 26)
   have HB1 := Lib.hid (HB.out.1.trans ((oneB wr (.cells #[.int .i64 x.me, .slice x.p x.n x.c, .slice x.q x.a x.b] 26)).mono HB.out.1.size))
   clear hcs
   go_wp2_with fail
   generalize wr.alloc (.cells #[.int .i64 x.me, .slice x.p x.n x.c, .slice x.q x.a x.b] 26) = W1 at *
   generalize wr.heap.size = gx at *
   have HREL2 : Hid (Below w.heap.size w W1 ∧ Blk W1 gx #[.int .i64 x.me, .slice x.p x.n x.c, .slice x.q x.a x.b] 26 ∧ ∀ j' (hj' : j' < k), j' < 0 → pairOk cur bs[k] (bs[j']'(by omega)) = true) := ⟨HB1.out, HX1.out, fun _ _ h => by omega⟩
   clear c0 c1 c2
   go_loopw [20] (fun i wr => ∃ j : Nat, j ≤ k ∧ i = .int .i64 j ∧ Hid (Below w.heap.size w wr ∧ Blk wr gx #[.int .i64 x.me, .slice x.p x.n x.c, .slice x.q x.a x.b] 26 ∧ ∀ j' (hj' : j' < k), j' < j → pairOk cur bs[k] (bs[j']'(by omega)) = true)) (fun i _ => k - (intOf i).toNat)
   case atStart => exact ⟨0, by omega, rfl, HREL2⟩
   case round =>
    obtain ⟨j, hj, rfl, HJ⟩ := hrel
    clear HREL2 HX1 HB1
    by_cases hjk : j < k
    ·have hjI : (j : Int) < (k : Int) := by omega
     have hjl : j < bs.length := by omega
     obtain ⟨b9, o9, e9, hbl2, hds⟩ := (HR.out.kept HJ.out.1).at_ j hjl
     cases e9
     obtain ⟨y, hy⟩ : ∃ y, bs[j] = y := ⟨_, rfl⟩
     rw [hy] at hds
     have HCK := Lib.hid hy
     have HYM : Hid (y ∈ bs) := by show _ ∈ _; rw [← hy]; exact List.getElem_mem hjl
     clear hy
     have d0 : wr.cell? ⟨b, o + j * 3, none⟩ = some (.int .i64 y.me) := hds 0 (by decide)
     have d1 : wr.cell? ⟨b, o + j * 3 + 1, none⟩ = some (.slice y.p y.n y.c) := hds 1 (by decide)
     have d2 : wr.cell? ⟨b, o + j * 3 + 2, none⟩ = some (.slice y.q y.a y.b) := hds 2 (by decide)
     have HY1 := Lib.hid (Blk.new wr #[.int .i64 y.me, .slice y.p y.n y.c, .slice y.q y.a y.b] 26)
     have HX2 := Lib.hid (HJ.out.2.1.below (oneB wr (.cells #[.int .i64 y.me, .slice y.p y.n y.c, .slice y.q y.a y.b] 26)) HJ.out.2.1.lt)
     have HB2 := Lib.hid (HJ.out.1.trans ((oneB wr (.cells #[.int .i64 y.me, .slice y.p y.n y.c, .slice y.q y.a y.b] 26)).mono HJ.out.1.size))
     have HJ2 := Lib.hid HJ.out.2.2
     clear hds HJ
     by_cases hme : x.me = y.me
     ·have e1 : (x.me != y.me) = false := by simpa using hme
      have HPO : Hid (pairOk cur x y = true) := by show _ = _; unfold pairOk; rw [decide_eq_true hme]; rfl
      clear hme
      go_upto_region 7 with fail
      generalize wr.alloc (.cells #[.int .i64 y.me, .slice y.p y.n y.c, .slice y.q y.a y.b] 26) = W2 at *
      generalize wr.heap.size = gy at *
      have x0 : W2.cell? ⟨gx, 0, none⟩ = some (.int .i64 x.me) := HX2.out.cell 0
      have x1 : W2.cell? ⟨gx, 1, none⟩ = some (.slice x.p x.n x.c) := HX2.out.cell 1
      have x2 : W2.cell? ⟨gx, 2, none⟩ = some (.slice x.q x.a x.b) := HX2.out.cell 2
      have y0 : W2.cell? ⟨gy, 0, none⟩ = some (.int .i64 y.me) := HY1.out.cell 0
      have y1 : W2.cell? ⟨gy, 1, none⟩ = some (.slice y.p y.n y.c) := HY1.out.cell 1
      have y2 : W2.cell? ⟨gy, 2, none⟩ = some (.slice y.q y.a y.b) := HY1.out.cell 2
      have HBX := HB2
      have HXX := HX2
      clear d0 d1 d2
      have HNX : Hid (Below w.heap.size w W2 ∧ Blk W2 gx #[.int .i64 x.me, .slice x.p x.n x.c, .slice x.q x.a x.b] 26 ∧ ∀ j' (hj' : j' < k), j' < j + 1 → pairOk cur bs[k] (bs[j']'(by omega)) = true) := ⟨HBX.out, HXX.out, fun j' h1 h2 => by
       by_cases e : j' = j
       ·subst e; rw [HBK.out, HCK.out]; exact HPO.out
       ·exact HJ2.out j' h1 (by omega)⟩
      go_wp2_with fail
      go_roundw
      case rel => exact ⟨j + 1, by omega, by go_num, HNX⟩
      case measure => simp [intOf]; omega
     ·have e1 : (x.me != y.me) = true := by simpa using hme
      go_upto_region 7 with fail
      generalize wr.alloc (.cells #[.int .i64 y.me, .slice y.p y.n y.c, .slice y.q y.a y.b] 26) = W2 at *
      generalize wr.heap.size = gy at *
      have x0 : W2.cell? ⟨gx, 0, none⟩ = some (.int .i64 x.me) := HX2.out.cell 0
      have x1 : W2.cell? ⟨gx, 1, none⟩ = some (.slice x.p x.n x.c) := HX2.out.cell 1
      have x2 : W2.cell? ⟨gx, 2, none⟩ = some (.slice x.q x.a x.b) := HX2.out.cell 2
      have y0 : W2.cell? ⟨gy, 0, none⟩ = some (.int .i64 y.me) := HY1.out.cell 0
      have y1 : W2.cell? ⟨gy, 1, none⟩ = some (.slice y.p y.n y.c) := HY1.out.cell 1
      have y2 : W2.cell? ⟨gy, 2, none⟩ = some (.slice y.q y.a y.b) := HY1.out.cell 2
      clear d0 d1 d2
      have HA1 := Lib.hid (HAL.out x y HXM.out HYM.out W2 HB2.out)
      have HA2 := Lib.hid (fun W (h : Below w.heap.size w W) => HAL.out y x HYM.out HXM.out W h)
      obtain ⟨L1, hL1⟩ : ∃ L1, alikeB x.me y.me cur x.xs y.xs = L1 := ⟨_, rfl⟩
      obtain ⟨L2, hL2⟩ : ∃ L2, alikeB y.me x.me cur y.xs x.xs = L2 := ⟨_, rfl⟩
      have HPE : Hid (pairOk cur x y = (L1 && L2)) := by show _ = _; unfold pairOk; rw [decide_eq_false hme, hL1, hL2]; rfl
      rw [hL1] at HA1
      rw [hL2] at HA2
      clear hL1 hL2 hme
      go_wp2_with fail
      refine HA1.out.mono ?_
      rintro z w3 ⟨rfl, hb3⟩
      have HB3 := ktq HB2 hb3
      have HX3 := kbq HX2 hb3
      have HY3 := kbq HY1 hb3
      clear hb3 HA1 x0 x1 x2 y0 y1 y2
      have x0 : w3.cell? ⟨gx, 0, none⟩ = some (.int .i64 x.me) := HX3.out.cell 0
      have x1 : w3.cell? ⟨gx, 1, none⟩ = some (.slice x.p x.n x.c) := HX3.out.cell 1
      have x2 : w3.cell? ⟨gx, 2, none⟩ = some (.slice x.q x.a x.b) := HX3.out.cell 2
      have y0 : w3.cell? ⟨gy, 0, none⟩ = some (.int .i64 y.me) := HY3.out.cell 0
      have y1 : w3.cell? ⟨gy, 1, none⟩ = some (.slice y.p y.n y.c) := HY3.out.cell 1
      have y2 : w3.cell? ⟨gy, 2, none⟩ = some (.slice y.q y.a y.b) := HY3.out.cell 2
      cases L1
      ·have HPO : Hid (pairOk cur x y = false) := HPE.out
       have HBX := HB3
       have HE : Hid (evenB cur bs = false) := evenB_no hkl hjk (by rw [HBK.out, HCK.out]; exact HPO.out)
       go_wp2_with fail
       go_ret
       exact ⟨by rw [HE.out]; rfl, HBX.out⟩
      ·skip
       go_wp2_with fail
       refine (HA2.out w3 HB3.out).mono ?_
       rintro z w4 ⟨rfl, hb4⟩
       have HBX := ktq HB3 hb4
       have HXX := kbq HX3 hb4
       clear hb4 HA2
       cases L2
       ·have HPO : Hid (pairOk cur x y = false) := HPE.out
        have HE : Hid (evenB cur bs = false) := evenB_no hkl hjk (by rw [HBK.out, HCK.out]; exact HPO.out)
        go_wp2_with fail
        go_ret
        exact ⟨by rw [HE.out]; rfl, HBX.out⟩
       ·have HPO : Hid (pairOk cur x y = true) := HPE.out
        have HNX : Hid (Below w.heap.size w w4 ∧ Blk w4 gx #[.int .i64 x.me, .slice x.p x.n x.c, .slice x.q x.a x.b] 26 ∧ ∀ j' (hj' : j' < k), j' < j + 1 → pairOk cur bs[k] (bs[j']'(by omega)) = true) := ⟨HBX.out, HXX.out, fun j' h1 h2 => by
         by_cases e : j' = j
         ·subst e; rw [HBK.out, HCK.out]; exact HPO.out
         ·exact HJ2.out j' h1 (by omega)⟩
        go_wp2_with fail
        go_roundw
        case rel => exact ⟨j + 1, by omega, by go_num, HNX⟩
        case measure => simp [intOf]; omega
    ·have hle2 : (k : Int) ≤ (j : Int) := by omega
     have HNX : Hid (Below w.heap.size w wr ∧ ∀ i' (h1 : i' < bs.length) j' (h2 : j' < i'), i' < k + 1 → pairOk cur bs[i'] (bs[j']'(by omega)) = true) := ⟨HJ.out.1, fun i' h1 j' h2 h3 => by
      by_cases e : i' = k
      ·subst e; exact HJ.out.2.2 j' h2 (by omega)
      ·exact HB.out.2 i' h1 j' h2 (by omega)⟩
     go_wp2_with fail
     go_roundw
     case rel => exact ⟨k + 1, by omega, by go_num, HNX⟩
     case measure => simp [intOf]; omega
  ·have hle : (n : Int) ≤ (k : Int) := by omega
   have HE : Hid (evenB cur bs = true) := evenB_yes fun i hi j hj => HB.out.2 i hi j hj (by have := HL.out; omega)
   go_wp2_with fail
   go_ret
   exact ⟨by rw [HE.out]; rfl, HB.out.1⟩
end Go.Proofs.Ytillckkohdjkbaa
namespace Go.Proofs.Ytillckkohdjkbaa
open Go.RowKit
def openS (cur : Int) (x : Bk) : Int := ((x.xs.filter (keepI cur (-1))).map (amtI x.me)).sum
theorem open_small {cur : Int} {x : Bk} (h : Okx x.xs) (hl : x.xs.length ≤ 2000) : -2251799813685248000 ≤ openS cur x ∧ openS cur x ≤ 2251799813685248000 := by
 have key : ∀ ys : List Itm, Okx ys → -(1125899906842624 * (ys.length : Int)) ≤ (ys.map (amtI x.me)).sum ∧ (ys.map (amtI x.me)).sum ≤ 1125899906842624 * (ys.length : Int) := by
  intro ys
  induction ys with
  | nil => intro _; simp
  | cons a t ih =>
   intro hk
   have h1 := hk a (by simp)
   have h2 := ih (fun b hb => hk b (by simp [hb]))
   have h3 : amtI x.me a = a.a ∨ amtI x.me a = -a.a := by unfold amtI; split <;> simp
   simp only [List.map_cons, List.sum_cons, List.length_cons, Int.natCast_add, Int.natCast_one, Int.mul_add, Int.mul_one]
   omega
 have h1 := key (x.xs.filter (keepI cur (-1))) (fun y hy => h y (List.mem_filter.1 hy).1)
 have h2 := List.length_filter_le (keepI cur (-1)) x.xs
 have h3 : (1125899906842624 : Int) * ((x.xs.filter (keepI cur (-1))).length : Int) ≤ 1125899906842624 * 2000 := Int.mul_le_mul_of_nonneg_left (by omega) (by omega)
 unfold openS
 omega
def oneP (cur : Int) (x : Bk) : List Pos := if openS cur x = 0 then [] else [⟨x.me, cur, openS cur x⟩]
def grpL (cur : Int) (bs : List Bk) : List Pos := bs.flatMap (oneP cur)
theorem grpL_take {cur : Int} {bs : List Bk} {k : Nat} (hk : k < bs.length) : grpL cur (bs.take (k + 1)) = grpL cur (bs.take k) ++ oneP cur bs[k] := by
 unfold grpL
 rw [List.take_succ_eq_append_getElem hk, List.flatMap_append]
 simp
theorem grpL_len (cur : Int) (bs : List Bk) : (grpL cur bs).length ≤ bs.length := by
 unfold grpL
 induction bs with
 | nil => simp
 | cons x t ih =>
  rw [List.flatMap_cons, List.length_append, List.length_cons]
  have : (oneP cur x).length ≤ 1 := by unfold oneP; split <;> simp
  omega
theorem grpL_mem {cur : Int} {bs : List Bk} {q : Pos} (h : q ∈ grpL cur bs) : ∃ x ∈ bs, q = ⟨x.me, cur, openS cur x⟩ := by
 unfold grpL oneP at h
 obtain ⟨x, hx, hq⟩ := List.mem_flatMap.1 h
 split at hq
 ·cases hq
 ·exact ⟨x, hx, List.mem_singleton.1 hq⟩
/-- One more, of a higher number. -/
theorem grp_around {cur : Int} {bs : List Bk} {m : Int} (h : ∀ x ∈ bs, x.me < m) : Around ⟨m, cur, 0⟩ (grpL cur bs) (grpL cur bs) [] [] := by
 refine ⟨by simp, fun q hq => ?_, (fun _ h => by cases h), .inl rfl⟩
 obtain ⟨x, hx, rfl⟩ := grpL_mem hq
 rw [ordP_lt]
 left
 exact h x hx
theorem grp_addL {cur : Int} {bs : List Bk} {x : Bk} (hm : 0 ≤ x.me ∧ x.me < 8) (hc : 0 ≤ cur ∧ cur < 8) (hf : Fits (openS cur x)) : addL (grpL cur bs) (grpL cur bs) [] x.me cur (midA []) (openS cur x) = grpL cur bs ++ oneP cur x ∧ addE x.me cur (midA []) (openS cur x) = 0 := by
 have hno : ¬ OutEC x.me cur := by unfold OutEC; omega
 unfold addL addE oneP
 rw [if_neg hno, if_neg hno, show midA [] + openS cur x = openS cur x from Int.zero_add _, if_pos hf, List.append_nil]
 exact ⟨rfl, sumE_yes hf⟩
theorem grp_out {cur : Int} {x : Bk} (hc : cur < 0 ∨ 8 ≤ cur) : addE x.me cur (midA []) (openS cur x) = 1 := by
 unfold addE
 rw [if_pos (by unfold OutEC; omega)]
def GRel (w : World) (cur : Int) (bs : List Bk) (k : Nat) (p : Option Addr) (n c : Nat) (wr : World) : Prop := Blk wr w.heap.size #[.slice none 0 0] 50 ∧ Blk wr (w.heap.size + 1) #[.slice p n c] 50 ∧ OwnP wr (w.heap.size + 1 + 1) 77 (.slice p n c) (grpL cur (bs.take k)) ∧ Below w.heap.size w wr
set_option linter.unusedSimpArgs false in
set_option maxHeartbeats 4000000 in
set_option maxRecDepth 100000 in
theorem group_in (w : World) (cur : Int) (v : Value) (bs : List Bk) (hr : TRow encB w v bs) (hin : ∀ b ∈ bs, b.In w) (hn : bs.length ≤ 8) (hc : 0 ≤ cur ∧ cur < 8) (hm : ∀ b ∈ bs, 0 ≤ b.me ∧ b.me < 8) (hs : bs.Pairwise (fun x y => x.me < y.me)) :
  Calls Try.prog 11 #[.int .i64 cur, v] w fun e w' => ∃ v', e = .returned (.tuple #[vecV v', .int .i64 0]) ∧ PRow w' v' (grpL cur bs) ∧ Below w.heap.size w w' := by
 obtain ⟨p, c, rfl⟩ := hr.shape
 have HR := Lib.hid hr
 have HIN := Lib.hid hin
 have HM := Lib.hid hm
 have HS := Lib.hid hs
 have HC := Lib.hid hc
 clear hr hin hm hs hc
 have HOP := Lib.hid (fun (x : Bk) (hx : x ∈ bs) (W : World) (h : Below w.heap.size w W) => open_any W x.me x.p x.q x.n x.c x.a x.b x.xs cur (-1) (openS cur x) 0 ((HIN.out x hx).row.kept h) (HIN.out x hx).small (HIN.out x hx).ok (sumN_yes (by have := open_small (cur := cur) (HIN.out x hx).ok (HIN.out x hx).small; unfold openS at this; unfold Fits; omega)) (sumE_yes (by have := open_small (cur := cur) (HIN.out x hx).ok (HIN.out x hx).small; unfold openS at this; unfold Fits; omega)))
 unfold bookV at HOP
 generalize hl : bs.length = n at *
 have HL := Lib.hid hl
 clear hl
 go_enter Try.func11, Try.ntmps11
 go_wp2_with fail
 generalize hW1 : (w.alloc (.cells #[.slice none 0 0] 50)).alloc (.cells #[.slice none 0 0] 50) = W1
 have HREL : Hid (GRel w cur bs 0 none 0 0 W1) := by
  show GRel _ _ _ _ _ _ _ _
  rw [← hW1]
  exact ⟨(Blk.new w _ _).alloc _, Blk.new' _ _ _ (by simp), OwnP.nil_ _ _ _, (oneB w _).alloc (by simp) _⟩
 clear hW1
 go_loopw [13] (fun i wr => ∃ (k : Nat) (pz : Option Addr) (nz cz : Nat), k ≤ n ∧ i = .int .i64 k ∧ Hid (GRel w cur bs k pz nz cz wr)) (fun i _ => n - (intOf i).toNat)
 case atStart => exact ⟨0, none, 0, 0, by omega, rfl, HREL⟩
 case round =>
  obtain ⟨k, pz, nz, cz, hk, rfl, HG⟩ := hrel
  clear HREL
  obtain ⟨hb0, hb1, hop, hbw⟩ := HG.out
  by_cases hlt : k < n
  ·have hkl : k < bs.length := by rw [HL.out]; exact hlt
   have hltI : (k : Int) < (n : Int) := by omega
   have HGT := Lib.hid (grpL_take (cur := cur) hkl)
   obtain ⟨b, o, rfl, hbl, hcs⟩ := (HR.out.kept hbw).at_ k hkl
   obtain ⟨x, hx⟩ : ∃ x, bs[k] = x := ⟨_, rfl⟩
   rw [hx] at hcs HGT
   have HXM : Hid (x ∈ bs) := by show _ ∈ _; rw [← hx]; exact List.getElem_mem hkl
   have HLT : Hid (∀ y ∈ bs.take k, y.me < x.me) := fun y hy => by
    obtain ⟨j, hj, rfl⟩ := List.mem_iff_getElem.1 hy
    rw [List.length_take] at hj
    rw [List.getElem_take, ← hx]
    exact List.pairwise_iff_getElem.1 HS.out j k (by have := HL.out; omega) hkl (by omega)
   have HGL : Hid ((grpL cur (bs.take k)).length ≤ 8) := by
    show _ ≤ _
    have := grpL_len cur (bs.take k)
    rw [List.length_take] at this
    omega
   clear hx
   have c0 : wr.cell? ⟨b, o + k * 3, none⟩ = some (.int .i64 x.me) := hcs 0 (by decide)
   have c1 : wr.cell? ⟨b, o + k * 3 + 1, none⟩ = some (.slice x.p x.n x.c) := hcs 1 (by decide)
   have c2 : wr.cell? ⟨b, o + k * 3 + 2, none⟩ = some (.slice x.q x.a x.b) := hcs 2 (by decide)
   have HX1 := Lib.hid (Blk.new wr #[.int .i64 x.me, .slice x.p x.n x.c, .slice x.q x.a x.b] 26)
   have HB1 := Lib.hid (hbw.trans ((oneB wr (.cells #[.int .i64 x.me, .slice x.p x.n x.c, .slice x.q x.a x.b] 26)).mono hbw.size))
   have HA0 := Lib.hid (hb0.alloc (.cells #[.int .i64 x.me, .slice x.p x.n x.c, .slice x.q x.a x.b] 26))
   have HA1 := Lib.hid (hb1.alloc (.cells #[.int .i64 x.me, .slice x.p x.n x.c, .slice x.q x.a x.b] 26))
   have HP1 := Lib.hid (hop.later (oneB wr (.cells #[.int .i64 x.me, .slice x.p x.n x.c, .slice x.q x.a x.b] 26)))
   clear hcs hb0 hb1 hop hbw HG
   go_upto_region 5 with fail
   generalize wr.alloc (.cells #[.int .i64 x.me, .slice x.p x.n x.c, .slice x.q x.a x.b] 26) = W2 at *
   generalize wr.heap.size = gx at *
   have x0 : W2.cell? ⟨gx, 0, none⟩ = some (.int .i64 x.me) := HX1.out.cell 0
   have x1 : W2.cell? ⟨gx, 1, none⟩ = some (.slice x.p x.n x.c) := HX1.out.cell 1
   have x2 : W2.cell? ⟨gx, 2, none⟩ = some (.slice x.q x.a x.b) := HX1.out.cell 2
   have HO := Lib.hid (HOP.out x HXM.out W2 HB1.out)
   clear c0 c1 c2
   go_wp2_with fail
   refine HO.out.mono ?_
   rintro y w3 ⟨rfl, hb3⟩
   have HX3 := kbq HX1 hb3
   have HA03 := kbq HA0 hb3
   have HA13 := kbq HA1 hb3
   have HP3 := Lib.hid (HP1.out.later hb3)
   have HB3 := ktq HB1 hb3
   clear hb3 HO HX1 HA0 HA1 HP1 HB1 x0 x1 x2
   have a0 : w3.cell? ⟨w.heap.size + 1, 0, none⟩ = some (.slice pz nz cz) := HA13.out.cell 0
   have x0 : w3.cell? ⟨gx, 0, none⟩ = some (.int .i64 x.me) := HX3.out.cell 0
   have x1 : w3.cell? ⟨gx, 1, none⟩ = some (.slice x.p x.n x.c) := HX3.out.cell 1
   have x2 : w3.cell? ⟨gx, 2, none⟩ = some (.slice x.q x.a x.b) := HX3.out.cell 2
   have HADD := Lib.hid (vadd_any w3 _ (grpL cur (bs.take k)) _ [] [] x.me cur (openS cur x) HP3.out.row (grp_around HLT.out) (by have := HGL.out; omega) (by unfold midA Fits; decide) (by have := open_small (cur := cur) (HIN.out x HXM.out).ok (HIN.out x HXM.out).small; unfold Fits; omega))
   have HAL := Lib.hid (grp_addL (bs := bs.take k) (HM.out x HXM.out) HC.out (show Fits (openS cur x) by have := open_small (cur := cur) (HIN.out x HXM.out).ok (HIN.out x HXM.out).small; unfold Fits; omega))
   unfold AddPost vecV at HADD
   rw [HAL.out.1, HAL.out.2, ← HGT.out] at HADD
   generalize openS cur x = z at *
   go_wp2_with fail
   refine HADD.out.mono ?_
   rintro y w4 ⟨v4, rfl, ho4, hb4⟩
   obtain ⟨p4, c4, hv4⟩ := ho4.form
   generalize (grpL cur (bs.take (k + 1))).length = n4 at hv4
   subst hv4
   have hsz := HA13.out.lt
   have HA04 := kbq HA03 hb4
   have HA14 := Lib.hid (HA13.out.below hb4 hsz)
   have HB4 := ktq HB3 hb4
   have HP4 := Lib.hid (ho4.less (show w.heap.size + 1 + 1 ≤ w3.heap.size by omega))
   clear hb4 ho4 HADD HX3 HA03 HA13 HP3 HB3 x0 x1 x2 a0 hsz
   have a0 : w4.cell? ⟨w.heap.size + 1, 0, none⟩ = some (.slice pz nz cz) := HA14.out.cell 0
   have af := HA14.out.free 0
   have HNX : Hid (GRel w cur bs (k + 1) p4 n4 c4 (w4.setCell ⟨w.heap.size + 1, 0, none⟩ (.slice p4 n4 c4))) := ⟨HA04.out.setOther (by simp) _, HA14.out.set 0 _, HP4.out.setLow (by simp) _, HB4.out.setCell (by simp) _⟩
   clear HA04 HA14 HP4 HB4
   go_wp2_with fail
   go_roundw
   case rel => exact ⟨k + 1, p4, n4, c4, by omega, by go_num, HNX⟩
   case measure => simp [intOf]; omega
  ·have hle : (n : Int) ≤ (k : Int) := by omega
   have hkn : k = bs.length := by rw [HL.out]; omega
   rw [hkn, List.take_length] at hop
   have HP := Lib.hid hop
   have HB := Lib.hid hbw
   have HA0 := Lib.hid hb0
   have HA1 := Lib.hid hb1
   have a0 : wr.cell? ⟨w.heap.size + 1, 0, none⟩ = some (.slice pz nz cz) := hb1.cell 0
   have r0 : wr.cell? ⟨w.heap.size, 0, none⟩ = some (.slice none 0 0) := hb0.cell 0
   have rf := hb0.free 0
   clear hop hbw hb0 hb1 HG hkn
   go_wp2_with fail
   have HFB := Lib.hid (HB.out.setCell (p := ⟨w.heap.size, 0, none⟩) (Nat.le_refl _) (.slice pz nz cz))
   have HFP := Lib.hid (HP.out.setLow (a := ⟨w.heap.size, 0, none⟩) (by simp; omega) (.slice pz nz cz))
   have HFR := Lib.hid (HA0.out.set 0 (.slice pz nz cz))
   have q0 : (wr.setCell ⟨w.heap.size, 0, none⟩ (.slice pz nz cz)).cell? ⟨w.heap.size, 0, none⟩ = some (.slice pz nz cz) := HFR.out.cell 0
   refine bodyPost_ret (v := .tuple #[vecV (.slice pz nz cz), .int .i64 0]) (by simp [results, Try.results11, go_sem, vecV, q0]) rfl ⟨_, rfl, HFP.out.row, HFB.out⟩
set_option linter.unusedSimpArgs false in
set_option maxHeartbeats 4000000 in
set_option maxRecDepth 100000 in
theorem group_out (w : World) (cur : Int) (v : Value) (bs : List Bk) (hr : TRow encB w v bs) (hin : ∀ b ∈ bs, b.In w) (hn : 0 < bs.length) (hc : cur < 0 ∨ 8 ≤ cur) :
  Calls Try.prog 11 #[.int .i64 cur, v] w fun e w' => e = .returned (.tuple #[vecV (.slice none 0 0), .int .i64 1]) ∧ Below w.heap.size w w' := by
 obtain ⟨p, c, rfl⟩ := hr.shape
 have HR := Lib.hid hr
 have HIN := Lib.hid hin
 have HC := Lib.hid hc
 clear hr hin hc
 have HOP := Lib.hid (fun (x : Bk) (hx : x ∈ bs) (W : World) (h : Below w.heap.size w W) => open_any W x.me x.p x.q x.n x.c x.a x.b x.xs cur (-1) (openS cur x) 0 ((HIN.out x hx).row.kept h) (HIN.out x hx).small (HIN.out x hx).ok (sumN_yes (by have := open_small (cur := cur) (HIN.out x hx).ok (HIN.out x hx).small; unfold openS at this; unfold Fits; omega)) (sumE_yes (by have := open_small (cur := cur) (HIN.out x hx).ok (HIN.out x hx).small; unfold openS at this; unfold Fits; omega)))
 unfold bookV at HOP
 generalize hl : bs.length = n at *
 have HL := Lib.hid hl
 clear hl
 go_enter Try.func11, Try.ntmps11
 go_wp2_with fail
 generalize hW1 : (w.alloc (.cells #[.slice none 0 0] 50)).alloc (.cells #[.slice none 0 0] 50) = W1
 have HREL : Hid (GRel w cur bs 0 none 0 0 W1) := by
  show GRel _ _ _ _ _ _ _ _
  rw [← hW1]
  exact ⟨(Blk.new w _ _).alloc _, Blk.new' _ _ _ (by simp), OwnP.nil_ _ _ _, (oneB w _).alloc (by simp) _⟩
 clear hW1
 go_loopw [13] (fun i wr => i = .int .i64 0 ∧ Hid (GRel w cur bs 0 none 0 0 wr)) (fun _ _ => 0)
 case atStart => exact ⟨rfl, HREL⟩
 case round =>
  obtain ⟨rfl, HG⟩ := hrel
  clear HREL
  obtain ⟨hb0, hb1, hop, hbw⟩ := HG.out
  have hkl : 0 < bs.length := by rw [HL.out]; exact hn
  have hltI : (0 : Int) < (n : Int) := by omega
  obtain ⟨b, o, rfl, hbl, hcs⟩ := (HR.out.kept hbw).at_ 0 hkl
  obtain ⟨x, hx⟩ : ∃ x, bs[0] = x := ⟨_, rfl⟩
  rw [hx] at hcs
  have HXM : Hid (x ∈ bs) := by show _ ∈ _; rw [← hx]; exact List.getElem_mem hkl
  clear hx
  have c0 : wr.cell? ⟨b, o, none⟩ = some (.int .i64 x.me) := by have h9 := hcs 0 (by decide); simpa [encB, Bk.cells] using h9
  have c1 : wr.cell? ⟨b, o + 1, none⟩ = some (.slice x.p x.n x.c) := by have h9 := hcs 1 (by decide); simpa [encB, Bk.cells] using h9
  have c2 : wr.cell? ⟨b, o + 2, none⟩ = some (.slice x.q x.a x.b) := by have h9 := hcs 2 (by decide); simpa [encB, Bk.cells] using h9
  have HX1 := Lib.hid (Blk.new wr #[.int .i64 x.me, .slice x.p x.n x.c, .slice x.q x.a x.b] 26)
  have HB1 := Lib.hid (hbw.trans ((oneB wr (.cells #[.int .i64 x.me, .slice x.p x.n x.c, .slice x.q x.a x.b] 26)).mono hbw.size))
  have HA0 := Lib.hid (hb0.alloc (.cells #[.int .i64 x.me, .slice x.p x.n x.c, .slice x.q x.a x.b] 26))
  have HA1 := Lib.hid (hb1.alloc (.cells #[.int .i64 x.me, .slice x.p x.n x.c, .slice x.q x.a x.b] 26))
  clear hcs hb0 hb1 hop hbw HG
  go_upto_region 5 with fail
  generalize wr.alloc (.cells #[.int .i64 x.me, .slice x.p x.n x.c, .slice x.q x.a x.b] 26) = W2 at *
  generalize wr.heap.size = gx at *
  have x0 : W2.cell? ⟨gx, 0, none⟩ = some (.int .i64 x.me) := HX1.out.cell 0
  have x1 : W2.cell? ⟨gx, 1, none⟩ = some (.slice x.p x.n x.c) := HX1.out.cell 1
  have x2 : W2.cell? ⟨gx, 2, none⟩ = some (.slice x.q x.a x.b) := HX1.out.cell 2
  have HO := Lib.hid (HOP.out x HXM.out W2 HB1.out)
  clear c0 c1 c2
  go_wp2_with fail
  refine HO.out.mono ?_
  rintro y w3 ⟨rfl, hb3⟩
  have HX3 := kbq HX1 hb3
  have HA03 := kbq HA0 hb3
  have HA13 := kbq HA1 hb3
  have HB3 := ktq HB1 hb3
  clear hb3 HO HX1 HA0 HA1 HB1 x0 x1 x2
  have a0 : w3.cell? ⟨w.heap.size + 1, 0, none⟩ = some (.slice none 0 0) := HA13.out.cell 0
  have x0 : w3.cell? ⟨gx, 0, none⟩ = some (.int .i64 x.me) := HX3.out.cell 0
  have x1 : w3.cell? ⟨gx, 1, none⟩ = some (.slice x.p x.n x.c) := HX3.out.cell 1
  have x2 : w3.cell? ⟨gx, 2, none⟩ = some (.slice x.q x.a x.b) := HX3.out.cell 2
  have HADD := Lib.hid (vadd_any w3 (.slice none 0 0) [] [] [] [] x.me cur (openS cur x) (PRow.nil_ w3) ⟨rfl, (fun _ h => by cases h), (fun _ h => by cases h), .inl rfl⟩ (by decide) (by unfold midA Fits; decide) (by have := open_small (cur := cur) (HIN.out x HXM.out).ok (HIN.out x HXM.out).small; unfold Fits; omega))
  unfold AddPost vecV at HADD
  rw [grp_out HC.out] at HADD
  generalize openS cur x = z at *
  go_wp2_with fail
  refine HADD.out.mono ?_
  rintro y w4 ⟨v4, rfl, ho4, hb4⟩
  obtain ⟨p4, c4, hv4⟩ := ho4.form
  generalize List.length _ = n4 at hv4
  subst hv4
  have hsz := HA13.out.lt
  have HA04 := kbq HA03 hb4
  have HA14 := Lib.hid (HA13.out.below hb4 hsz)
  have HB4 := ktq HB3 hb4
  clear hb4 ho4 HADD HX3 HA03 HA13 HB3 x0 x1 x2 a0 hsz
  have a0 : w4.cell? ⟨w.heap.size + 1, 0, none⟩ = some (.slice none 0 0) := HA14.out.cell 0
  have af := HA14.out.free 0
  have HA05 := Lib.hid (HA04.out.setOther (a := ⟨w.heap.size + 1, 0, none⟩) (by simp) (.slice p4 n4 c4))
  have HB5 := Lib.hid (HB4.out.setCell (p := ⟨w.heap.size + 1, 0, none⟩) (by simp) (.slice p4 n4 c4))
  have r0 : (w4.setCell ⟨w.heap.size + 1, 0, none⟩ (.slice p4 n4 c4)).cell? ⟨w.heap.size, 0, none⟩ = some (.slice none 0 0) := HA05.out.cell 0
  have rf := HA05.out.free 0
  go_wp2_with fail
  have HFB := Lib.hid (HB5.out.setCell (p := ⟨w.heap.size, 0, none⟩) (Nat.le_refl _) (.slice none 0 0))
  have HFR := Lib.hid (HA05.out.set 0 (.slice none 0 0))
  have q0 : ((w4.setCell ⟨w.heap.size + 1, 0, none⟩ (.slice p4 n4 c4)).setCell ⟨w.heap.size, 0, none⟩ (.slice none 0 0)).cell? ⟨w.heap.size, 0, none⟩ = some (.slice none 0 0) := HFR.out.cell 0
  refine bodyPost_ret (v := .tuple #[vecV (.slice none 0 0), .int .i64 1]) (by simp [results, Try.results11, go_sem, vecV, q0]) rfl ⟨rfl, HFB.out⟩
end Go.Proofs.Ytillckkohdjkbaa
namespace Go.Proofs.Ytillckkohdjkbaa
open Go.RowKit
theorem TRow.lit {α : Type} (e : Enc α) {w : World} {b : Nat} {cs : Array Value} {ty : TypeId} (xs : List α) (n c : Nat) (hB : Blk w b cs ty) (hcs : cs.toList = xs.flatMap e.E) (hn : n = xs.length) (hc : n ≤ c) : TRow e w (.slice (some ⟨b, 0, none⟩) n c) xs := by
 subst hn
 refine ⟨_, c, rfl, hc, .inr ⟨b, 0, rfl, hB.lt, fun i hi t ht => ?_⟩⟩
 rw [Nat.zero_add, hB.cell, ← Array.getElem?_toList, hcs, flat_get e xs i t hi ht]
end Go.Proofs.Ytillckkohdjkbaa
namespace Go.Proofs.Ytillckkohdjkbaa
open Go.RowKit
theorem elt64v : Elt Try.prog 34 2 .i64 8 := by
 have ht := Try.underlying34
 have h : (Try.prog.info? 2).map (fun i => (i.zero, i.size, i.bytes)) = some (some (.int .i64 0), 1, 8) := by kernel_rfl
 cases hi : Try.prog.info? 2 with
 | none => rw [hi] at h; cases h
 | some i =>
  rw [hi] at h
  simp only [Option.map_some, Option.some.injEq, Prod.mk.injEq] at h
  exact ⟨i, ht, hi, h.1, h.2.1, h.2.2⟩
/-- What the positions of a currency have. -/
def amtsC (c : Int) (ps : List Pos) : List Int := (ps.filter (fun p => decide (p.c = c))).map (·.a)
theorem amtsC_app (c : Int) (ps qs : List Pos) : amtsC c (ps ++ qs) = amtsC c ps ++ amtsC c qs := by simp [amtsC]
theorem amtsC_len (c : Int) (ps : List Pos) : (amtsC c ps).length ≤ ps.length := by
 unfold amtsC
 rw [List.length_map]
 exact List.length_filter_le _ _
theorem amtsC_one (c e a x : Int) : amtsC c [⟨e, x, a⟩] = if x = c then [a] else [] := by
 unfold amtsC
 by_cases h : x = c
 ·simp [h]
 ·simp [h]
theorem stop_appendT {P : Program} {ops : Array Oper} {rest : List Oper} {o : Oper} {a : Act} {w : World} {Q : Exit → Act → World → Prop} (s x : Operand) (t : TypeId)
  (_ : o.op = .call { callee := .builtin .append, args := #[s, x], argTypes := #[t, t] }) (h : Hid (wpList P ops Q (o :: rest) a w)) : wpList P ops Q (o :: rest) a w := h
/-- What the loop keeps. -/
def TRel (w : World) (sv : Value) (zs : List Int) (v : Value) (wr : World) : Prop := Blk wr w.heap.size #[sv] 50 ∧ Own .i64 wr (w.heap.size + 1) 2 v zs ∧ Below w.heap.size w wr
set_option linter.unusedSimpArgs false in
set_option maxHeartbeats 8000000 in
set_option maxRecDepth 100000 in
theorem totalL_any (w : World) (v : Value) (L : List Pos) (cur : Int) (hL : L.length ≤ 64) (hF : ∀ p ∈ L, Fits p.a) (hv : PRow w v L) :
  Calls Try.prog 12 #[vecV v, .int .i64 cur] w fun x w' => x = .returned (.tuple #[.int .i64 (sumN (amtsC cur L).sum), .int .i64 (sumE (amtsC cur L).sum)]) ∧ Below w.heap.size w w' := by
 have HFA : Hid (∀ p ∈ L, Fits p.a) := hF
 obtain ⟨pv, cv, rfl⟩ := hv.shape
 have HV := Lib.hid hv
 have hn64 : L.length ≤ 64 := hL
 clear hv hL hF
 have H64 : Hid (All64 (amtsC cur L)) := fun z hz => by
  unfold amtsC at hz
  obtain ⟨p, hp, rfl⟩ := List.mem_map.1 hz
  exact HFA.out p (List.mem_filter.1 hp).1
 have HLEN : Hid ((amtsC cur L).length ≤ 140737488355328) := Nat.le_trans (amtsC_len cur L) (by omega)
 have HSU : Hid (∀ W v, Row .i64 W v (amtsC cur L) → Calls Try.prog 28 #[v] W (SumTo (amtsC cur L).sum W)) := fun W v h => sum_any v _ W HLEN.out H64.out h
 generalize hS : sumN (amtsC cur L).sum = SN
 generalize hE : sumE (amtsC cur L).sum = SE
 have HS := Lib.hid hS
 have HE := Lib.hid hE
 clear hS hE
 generalize hnn : L.length = n at *
 have HNU := Lib.hid hnn
 clear hnn
 have HREL : Hid (TRel w (.slice pv n cv) [] (.slice none 0 0) (w.alloc (.cells #[.slice pv n cv] 50))) := ⟨Blk.new w _ _, Own.nil_ _ _ _ _, oneB w _⟩
 unfold vecV at *
 go_enter Try.func12, Try.ntmps12
 go_wp2_with fail
 go_loopw [6, 12] (fun v i wr => ∃ k : Nat, k ≤ n ∧ i = .int .i64 k ∧ Hid (TRel w (.slice pv n cv) (amtsC cur (L.take k)) v wr)) (fun _ i _ => n - (intOf i).toNat)
 case atStart => exact ⟨0, by omega, rfl, HREL⟩
 case round =>
  obtain ⟨k, hk, rfl, HK⟩ := hrel
  clear HREL
  by_cases hlt : k < n
  ·have hkl : k < L.length := by rw [HNU.out]; exact hlt
   have hltI : (k : Int) < (n : Int) := by omega
   have HTK : Hid (L.take (k + 1) = L.take k ++ [L[k]]) := List.take_succ_eq_append_getElem hkl
   obtain ⟨b, o, rfl, hbl, e0, e1, e2⟩ := (HV.out.kept HK.out.2.2).at_ k hkl
   generalize L[k] = P at *
   obtain ⟨e, x, a⟩ := P
   dsimp only at e0 e1 e2
   have HSUC : Hid (amtsC cur (L.take (k + 1)) = amtsC cur (L.take k) ++ (if x = cur then [a] else [])) := by
    show _ = _
    rw [HTK.out, amtsC_app, amtsC_one]
   have HZL : Hid ((amtsC cur (L.take k)).length ≤ 64) := Nat.le_trans (amtsC_len _ _) (by rw [List.length_take]; omega)
   obtain ⟨hb1, ho1, hw1⟩ := HK.out
   obtain ⟨p2, c2, hv2⟩ := ho1.form
   generalize hz : amtsC cur (L.take k) = zs at *
   generalize hm : zs.length = m at *
   subst hv2
   have HM := Lib.hid hm
   have HB1 := Lib.hid (hb1.alloc (.cells #[.int .i64 e, .int .i64 x, .int .i64 a] 77))
   have HW1 := Lib.hid (hw1.alloc hw1.size (.cells #[.int .i64 e, .int .i64 x, .int .i64 a] 77))
   have HO1 := Lib.hid (ho1.alloc (.cells #[.int .i64 e, .int .i64 x, .int .i64 a] 77))
   have hszw : w.heap.size + 1 ≤ (wr.alloc (.cells #[.int .i64 e, .int .i64 x, .int .i64 a] 77)).heap.size := Nat.le_trans hb1.lt (by simp)
   have HSZ := Lib.hid hszw
   clear hb1 ho1 hw1 HK hz hm hszw HTK
   by_cases hc : x = cur
   ·have ec : (x == cur) = true := by simpa using hc
    rw [if_pos hc] at HSUC
    clear hc
    have HFIN := Lib.hid (fun p c W (h : Own .i64 W (w.heap.size + 1) 2 (.slice p (m + 1) c) (zs ++ [a])) (hb : Below (w.heap.size + 1) (wr.alloc (.cells #[.int .i64 e, .int .i64 x, .int .i64 a] 77)) W) => (show TRel w (.slice (some ⟨b, o, none⟩) n cv) (amtsC cur (L.take (k + 1))) (.slice p (m + 1) c) W from ⟨HB1.out.below hb (Nat.lt_succ_self _), by rw [HSUC.out]; exact h, HW1.out.trans (hb.mono (Nat.le_succ _))⟩))
    go_wp2_with (at_builtin; with_reducible refine stop_appendT (.tmp 20) (.tmp 23) 34 rfl ?_)
    refine wpList_append_row rfl (.tmp 20) (.tmp 23) 34 rfl 2 .i64 8 (w.heap.size + 1) elt64v (.slice p2 m c2) (.slice (some ⟨wr.heap.size + 1, 0, none⟩) 1 1) zs [a] rfl rfl (HO1.out.alloc (.cells #[.int .i64 a] 2)) ⟨some ⟨wr.heap.size + 1, 0, none⟩, 1, rfl, Nat.le_refl _, .inr ⟨wr.heap.size + 1, 0, rfl, fun i hi => ?_⟩⟩ (by rw [HM.out]; have := HZL.out; simp only [List.length_cons, List.length_nil]; omega) (by rw [HM.out]; have := HZL.out; simp only [List.length_cons, List.length_nil]; omega) (Nat.le_trans HSZ.out (by simp)) (zs ++ [a]) (m + 1) rfl (by rw [List.length_append, HM.out]; rfl) ?_
    ·obtain rfl : i = 0 := by simp at hi; omega
     exact (Blk.new' (wr.alloc (.cells #[.int .i64 e, .int .i64 x, .int .i64 a] 77)) #[.int .i64 a] 2 (b := wr.heap.size + 1) (by simp)).cell 0
    intro p3 c3 w3 ho3 hb3
    have HNX := Lib.hid (HFIN.out p3 c3 w3 ho3 ((Below.alloc (Below.refl _ _) HSZ.out _).trans hb3))
    clear ho3 hb3 HFIN
    go_wp2_with fail
    go_roundw
    case rel => exact ⟨k + 1, by omega, by go_num, HNX⟩
    case measure => simp [intOf]; omega
   ·have ec : (x == cur) = false := by simpa using hc
    rw [if_neg hc, List.append_nil] at HSUC
    clear hc
    have HNX : Hid (TRel w (.slice (some ⟨b, o, none⟩) n cv) (amtsC cur (L.take (k + 1))) (.slice p2 m c2) (wr.alloc (.cells #[.int .i64 e, .int .i64 x, .int .i64 a] 77))) := ⟨HB1.out, by rw [HSUC.out, ← HM.out] at *; exact HO1.out, HW1.out⟩
    go_wp2_with fail
    go_roundw
    case rel => exact ⟨k + 1, by omega, by go_num, HNX⟩
    case measure => simp [intOf]; omega
  ·have hle : (n : Int) ≤ (k : Int) := by omega
   have hkn : k = L.length := by rw [HNU.out]; omega
   have hK := HK.out
   rw [hkn, List.take_length] at hK
   obtain ⟨_, ho, hw⟩ := hK
   have HR := Lib.hid ho.row
   have HW := Lib.hid hw
   clear ho hw hkn HK
   go_wp2_with fail
   refine (HSU.out _ _ HR.out).mono ?_
   rintro y w2 ⟨rfl, rfl⟩
   rw [HS.out, HE.out]
   go_wp2_with fail
   go_ret2
   exact ⟨rfl, HW.out⟩
end Go.Proofs.Ytillckkohdjkbaa
