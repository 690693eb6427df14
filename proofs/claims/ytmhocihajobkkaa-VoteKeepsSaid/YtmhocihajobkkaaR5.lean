/- slices.IndexFunc, DeleteFunc, Clone over lines by contract; cycle.Mine. slices.Equal of numbers, cycle.net, Nets, Right by contract. vote's prepare by contract. slices.IndexFunc, DeleteFunc over items by contract, whatever the predicate. (book.Book).Free, Locked by contract. An append onto the call's own slice of structs, where the order is open. -/
import Derived.Test.YtmhocihajobkkaaR4
import Derived.Test.YtmhocihajobkkaaR1
import Derived.Lib.SliceRun
import Derived.Deep.CutRange
import Derived.Deep.CutBlock
import Derived.Deep.AppendSrc
namespace Go.Proofs.Ytmhocihajobkkaa
open Go.RowKit
def zeroVNc : Value := .agg #[.int .i64 0, .int .i64 0, .int .i64 0, .int .i64 0]
theorem eltNc : EltT encN Try.prog 43 50 zeroVNc 32 := eltT_mk Try.underlying43 (by kernel_rfl)
/-- The closure that book.agreed hands over says p, in every world that leaves what lies below base. -/
def SaysN (p : Lin → Bool) (base bf : Nat) (w : World) : Prop := ∀ W, Below base w W → ∀ x : Lin, Calls Try.prog 68 #[x.v, .pointer (some ⟨bf, 0, none⟩)] W fun e w' => e = .returned (.bool (p x)) ∧ Below W.heap.size W w'
def IdxRN (p : Lin → Bool) (xs : List Lin) (r : Int) : Prop := (r = -1 ∧ ∀ x ∈ xs, p x = false) ∨ ∃ i : Nat, r = i ∧ ∃ hi : i < xs.length, p xs[i] = true ∧ ∀ j (hj : j < xs.length), j < i → p xs[j] = false
set_option linter.unusedSimpArgs false in
set_option maxHeartbeats 4000000 in
set_option maxRecDepth 100000 in
theorem idx_anyN (w : World) (v : Value) (xs : List Lin) (p : Lin → Bool) (base bf : Nat) (hr : TRow encN w v xs) (hP : SaysN p base bf w) (hb : base ≤ w.heap.size) (hn : xs.length ≤ 2000) :
  Calls Try.prog 75 #[v, (.func (.func 68) #[] #[.pointer (some ⟨bf, 0, none⟩)])] w fun e w' => ∃ r, e = .returned (.int .i64 r) ∧ IdxRN p xs r ∧ Below w.heap.size w w' := by
 obtain ⟨pv, c, rfl⟩ := hr.shape
 have HR := Lib.hid hr
 have HPP := Lib.hid hP
 have HBB := Lib.hid hb
 clear hr hP hb
 generalize hl : xs.length = n at *
 have HL := Lib.hid hl
 clear hl
 go_enter Try.func75, Try.ntmps75
 go_wp2_with fail
 go_loopw [5, 8] (fun _ i wr => ∃ k : Nat, k ≤ n ∧ i = .int .i64 k ∧ Hid (Below w.heap.size w wr ∧ ∀ j (hj : j < xs.length), j < k → p xs[j] = false)) (fun _ i _ => n - (intOf i).toNat)
 case atStart => exact ⟨0, by omega, rfl, ⟨Below.refl _ _, fun j hj h => by omega⟩⟩
 case round =>
  obtain ⟨k, hk, rfl, HB⟩ := hrel
  by_cases hlt : k < n
  ·have hkl : k < xs.length := by rw [HL.out]; exact hlt
   have hltI : (k : Int) < (n : Int) := by omega
   obtain ⟨b, o, rfl, hbl, hcs⟩ := (HR.out.kept HB.out.1).at_ k hkl
   obtain ⟨x, hx⟩ : ∃ x, xs[k] = x := ⟨_, rfl⟩
   have HX := Lib.hid hx
   rw [hx] at hcs
   clear hx
   have c0 : wr.cell? ⟨b, o + k * 4, none⟩ = some (.int .i64 x.s) := hcs 0 (by decide)
   have c1 : wr.cell? ⟨b, o + k * 4 + 1, none⟩ = some (.int .i64 x.n) := hcs 1 (by decide)
   have c2 : wr.cell? ⟨b, o + k * 4 + 2, none⟩ = some (.int .i64 x.b) := hcs 2 (by decide)
   have c3 : wr.cell? ⟨b, o + k * 4 + 3, none⟩ = some (.int .i64 x.a) := hcs 3 (by decide)
   have HD := Lib.hid (HPP.out wr (HB.out.1.mono HBB.out) x)
   unfold Lin.v at HD
   obtain ⟨px, hpx⟩ : ∃ px, p x = px := ⟨_, rfl⟩
   rw [hpx] at HD
   have HPX := Lib.hid hpx
   clear hcs hpx
   cases px
   ·go_wp2_with fail
    refine HD.out.mono ?_
    rintro y w1 ⟨rfl, hb⟩
    have HN : Hid (Below w.heap.size w w1 ∧ ∀ j (hj : j < xs.length), j < k + 1 → p xs[j] = false) := ⟨HB.out.1.trans (hb.mono HB.out.1.size), fun j hj h => by
     by_cases e : j = k
     ·subst e; rw [HX.out]; exact HPX.out
     ·exact HB.out.2 j hj (by omega)⟩
    clear hb c0 c1 c2 c3 HD
    go_wp2_with fail
    go_roundw
    case rel => exact ⟨k + 1, by omega, by go_num, HN⟩
    case measure => simp [intOf]; omega
   ·go_wp2_with fail
    refine HD.out.mono ?_
    rintro y w1 ⟨rfl, hb⟩
    have HN := Lib.hid (HB.out.1.trans (hb.mono HB.out.1.size))
    clear hb c0 c1 c2 c3 HD
    go_wp2_with fail
    go_ret
    exact ⟨_, rfl, .inr ⟨k, rfl, hkl, by rw [HX.out]; exact HPX.out, fun j hj h => HB.out.2 j hj h⟩, HN.out⟩
  ·have hle : (n : Int) ≤ (k : Int) := by omega
   go_wp2_with fail
   go_ret
   exact ⟨_, rfl, .inl ⟨rfl, fun x hx => by
    obtain ⟨j, hj, rfl⟩ := List.mem_iff_getElem.1 hx
    exact HB.out.2 j hj (by have := HL.out; omega)⟩, HB.out.1⟩
theorem zeroVNc_run (w : World) : (zeroValue 50).run Try.prog w = .ok zeroVNc w := by
 obtain ⟨i, _, hi, hz, _⟩ := eltNc
 simp [zeroValue, typeInfo, hi, hz]
theorem zeroVNc_one : ∀ v ∈ zeroVNc.cells, v.oneCell' = true := by intro v hv; simp [zeroVNc, Value.cells] at hv; subst hv; rfl
/-- Where the deleting stands: i are kept, j looked at. -/
def DRelN (p : Lin → Bool) (xs : List Lin) (w : World) (base g n c i j : Nat) (wr : World) : Prop := Below base w wr ∧ ∃ ys : List Lin, OwnT encN wr base 50 (.slice (some ⟨g, 0, none⟩) n c) ys ∧ ys.take i = (xs.take j).filter (fun x => !p x) ∧ ys.drop j = xs.drop j
theorem filt_takeN {p : Lin → Bool} {xs : List Lin} {j : Nat} (hj : j < xs.length) : (xs.take (j + 1)).filter (fun x => !p x) = (xs.take j).filter (fun x => !p x) ++ (if p xs[j] then [] else [xs[j]]) := by
 rw [List.take_succ_eq_append_getElem hj, List.filter_append]
 congr 1
 cases h : p xs[j] <;> simp [h]
theorem drop_atN {ys xs : List Lin} {j : Nat} (h : ys.drop j = xs.drop j) (hj : j < xs.length) (hy : j < ys.length) : ys[j] = xs[j] := by
 have h1 := congrArg (fun l => l[0]?) h
 simp only [List.getElem?_drop, Nat.add_zero] at h1
 rw [List.getElem?_eq_getElem hj, List.getElem?_eq_getElem hy] at h1
 exact Option.some.inj h1
theorem drop_succN {ys xs : List Lin} {j : Nat} (h : ys.drop j = xs.drop j) : ys.drop (j + 1) = xs.drop (j + 1) := by
 have h1 := congrArg (List.drop 1) h
 rwa [List.drop_drop, List.drop_drop] at h1
set_option linter.unusedSimpArgs false in
set_option maxHeartbeats 4000000 in
set_option maxRecDepth 100000 in
theorem delete_anyN (w : World) (v : Value) (xs : List Lin) (p : Lin → Bool) (base bf : Nat) (hr : OwnT encN w base 50 v xs) (hP : SaysN p base bf w) (hb : base ≤ w.heap.size) (hn : xs.length ≤ 2000) :
  Calls Try.prog 67 #[v, (.func (.func 68) #[] #[.pointer (some ⟨bf, 0, none⟩)])] w fun e w' => ∃ v', e = .returned v' ∧ OwnT encN w' base 50 v' (xs.filter (fun x => !p x)) ∧ Below base w w' := by
 have HI := Lib.hid (idx_anyN w v xs p base bf hr.row hP hb hn)
 obtain ⟨pv, c, rfl⟩ := hr.form
 have HR := Lib.hid hr
 have HPP := Lib.hid hP
 have HBB := Lib.hid hb
 clear hr hP hb
 generalize hl : xs.length = n at *
 have HL := Lib.hid hl
 clear hl
 go_enter Try.func67, Try.ntmps67
 go_wp2_with fail
 refine HI.out.mono ?_
 rintro y w1 ⟨r, rfl, hix, hb1⟩
 have HB1 := Lib.hid hb1
 have HR1 := Lib.hid (HR.out.later hb1)
 clear hb1 HI
 rcases hix with ⟨rfl, hall⟩ | ⟨i0, rfl, hi0, hpi, hbe⟩
 ·have HF : Hid (xs.filter (fun x => !p x) = xs) := by show _ = _; rw [List.filter_eq_self]; intro x hx; rw [hall x hx]; rfl
  clear hall
  go_wp2_with fail
  go_ret
  exact ⟨_, rfl, by rw [HF.out]; exact HR1.out, HB1.out.mono HBB.out⟩
 ·have hi0n : i0 < n := by rw [← HL.out]; exact hi0
  obtain ⟨g, cur, hpv, hgb, hgB, hnc, _⟩ := HR1.out.lies (by omega)
  subst hpv
  have HST : Hid (DRelN p xs w base g n c i0 (i0 + 1) w1) := by
   refine ⟨HB1.out.mono HBB.out, xs, HR1.out, ?_, rfl⟩
   rw [filt_takeN hi0, hpi, if_pos rfl, List.append_nil, List.filter_eq_self.2]
   intro x hx
   obtain ⟨j, hj, rfl⟩ := List.mem_iff_getElem.1 hx
   rw [List.length_take] at hj
   rw [List.getElem_take, hbe j (by omega) (by omega)]
   rfl
  have HGB : Hid (base ≤ g) := hgb
  have hne : ((i0 : Int) == -1) = false := by simp
  clear hgb hgB hbe hpi hi0 HR HR1 HB1
  go_wp2_with fail
  go_loopw [5, 6, 7] (fun vi vj _ wr => ∃ i j : Nat, vi = .int .i64 i ∧ vj = .int .i64 j ∧ j ≤ n ∧ i < j ∧ Hid (DRelN p xs w base g n c i j wr)) (fun _ vj _ _ => n - (intOf vj).toNat)
  case atStart => exact ⟨i0, i0 + 1, rfl, by go_num, by omega, by omega, HST⟩
  case round =>
   obtain ⟨i, j, rfl, rfl, hjn, hij, HK⟩ := hrel
   clear HST
   obtain ⟨hbw, ys, hown, htk, hdr⟩ := HK.out
   have hyl : ys.length = n := by obtain ⟨p', c', e1⟩ := hown.form; exact (Value.slice.inj e1).2.1.symm
   have HOW := Lib.hid hown
   have HBW := Lib.hid hbw
   have HTK := Lib.hid htk
   have HDR := Lib.hid hdr
   have HYL := Lib.hid hyl
   clear hown hbw htk hdr hyl HK
   by_cases hlt : j < n
   ·have hltI : (j : Int) < (n : Int) := by omega
    have hjx : j < xs.length := by rw [HL.out]; exact hlt
    have hjy : j < ys.length := by rw [HYL.out]; exact hlt
    obtain ⟨b, o, e1, hbl, hcs⟩ := HOW.out.row.at_ j hjy
    cases e1
    have HDX : Hid (ys[j] = xs[j]) := drop_atN HDR.out hjx hjy
    rw [HDX.out] at hcs
    have HFT := Lib.hid (filt_takeN (p := p) hjx)
    have hinI : (i : Int) < (n : Int) := by omega
    obtain ⟨x, hx⟩ : ∃ x, xs[j] = x := ⟨_, rfl⟩
    have HX := Lib.hid hx
    rw [hx] at hcs HFT HDX
    clear hx
    have hcs : ∀ t, t < 4 → wr.cell? ⟨g, j * 4 + t, none⟩ = (Lin.cells x)[t]? := fun t ht => by have := hcs t ht; rwa [Nat.zero_add] at this
    have c0 : wr.cell? ⟨g, j * 4, none⟩ = some (.int .i64 x.s) := hcs 0 (by decide)
    have c1 : wr.cell? ⟨g, j * 4 + 1, none⟩ = some (.int .i64 x.n) := hcs 1 (by decide)
    have c2 : wr.cell? ⟨g, j * 4 + 2, none⟩ = some (.int .i64 x.b) := hcs 2 (by decide)
    have c3 : wr.cell? ⟨g, j * 4 + 3, none⟩ = some (.int .i64 x.a) := hcs 3 (by decide)
    have HBA : Hid (Below base w (wr.alloc (.cells #[.int .i64 x.s, .int .i64 x.n, .int .i64 x.b, .int .i64 x.a] 50))) := HBW.out.trans ((oneB wr _).mono (Nat.le_trans HBB.out HBW.out.size))
    have HD := Lib.hid (HPP.out _ HBA.out x)
    have HBX := Lib.hid (Blk.new wr #[.int .i64 x.s, .int .i64 x.n, .int .i64 x.b, .int .i64 x.a] 50)
    have HOA := Lib.hid (HOW.out.later (oneB wr (.cells #[.int .i64 x.s, .int .i64 x.n, .int .i64 x.b, .int .i64 x.a] 50)))
    unfold Lin.v at HD
    obtain ⟨px, hpx⟩ : ∃ px, p x = px := ⟨_, rfl⟩
    rw [hpx] at HD HFT
    clear hcs hpx
    cases px
    ·have HFS : Hid ((xs.take (j + 1)).filter (fun x => !p x) = (xs.take j).filter (fun x => !p x) ++ [x]) := HFT.out
     clear HFT
     go_wp2_with fail
     generalize wr.alloc (.cells #[.int .i64 x.s, .int .i64 x.n, .int .i64 x.b, .int .i64 x.a] 50) = W1 at *
     generalize wr.heap.size = gx at *
     refine HD.out.mono ?_
     rintro y w2 ⟨rfl, hb2⟩
     have HB2 := Lib.hid (HBA.out.trans (hb2.mono (Nat.le_trans HBB.out HBA.out.size)))
     have HX2 := kbq HBX hb2
     have HO2 := Lib.hid (HOA.out.later hb2)
     clear hb2 HD HBA HBX HOA c0 c1 c2 c3
     have d0 : w2.cell? ⟨gx, 0, none⟩ = some (.int .i64 x.s) := HX2.out.cell 0
     have d1 : w2.cell? ⟨gx, 1, none⟩ = some (.int .i64 x.n) := HX2.out.cell 1
     have d2 : w2.cell? ⟨gx, 2, none⟩ = some (.int .i64 x.b) := HX2.out.cell 2
     have d3 : w2.cell? ⟨gx, 3, none⟩ = some (.int .i64 x.a) := HX2.out.cell 3
     have HTH := Lib.hid (HO2.out.there i 4 (by show i * 4 + 4 ≤ c * 4; omega) (by omega))
     have HINF : Hid ((Try.prog.info? 50).map (·.size) = some (#[.int .i64 x.s, .int .i64 x.n, .int .i64 x.b, .int .i64 x.a] : Array Value).size) := by
      obtain ⟨ii, _, hi, _, hs, _⟩ := eltNc
      show _ = _
      rw [hi]
      show some ii.size = some 4
      rw [hs]
      rfl
     have HN : Hid (DRelN p xs w base g n c (i + 1) (j + 1) (w2.setCells g (i * 4) (#[.int .i64 x.s, .int .i64 x.n, .int .i64 x.b, .int .i64 x.a] : Array Value).toList)) := by
      refine ⟨below_put HGB.out _ _ _ _ HB2.out, ys.set i x, HO2.out.put i (by omega) x, ?_, ?_⟩
      ·rw [HFS.out, ← HTK.out, List.take_succ_eq_append_getElem (by rw [List.length_set, HYL.out]; omega), List.getElem_set_self]
       congr 1
       rw [List.take_set]
       exact List.set_eq_of_length_le (by rw [List.length_take]; omega)
      ·rw [List.drop_set_of_lt (by omega)]
       exact drop_succN HDR.out
     clear HB2 HO2 HX2
     go_wp2_with (with_reducible refine stop_storeT 50 (.tmp 33) (.tmp 32) rfl ?_)
     refine wpList_store_mid rfl 50 (.tmp 33) (.tmp 32) rfl g (i * 4) #[.int .i64 x.s, .int .i64 x.n, .int .i64 x.b, .int .i64 x.a] rfl rfl HTH.out HINF.out (all_oneCell_toArray (encN.one x)) ?_
     clear HTH HINF d0 d1 d2 d3
     generalize World.setCells w2 g (i * 4) _ = W3 at *
     go_wp2_with fail
     go_roundw
     case rel => exact ⟨i + 1, j + 1, by go_num, by go_num, by omega, by omega, HN⟩
     case measure => simp [intOf]; omega
    ·have HFS : Hid ((xs.take (j + 1)).filter (fun x => !p x) = (xs.take j).filter (fun x => !p x)) := by
      show _ = _
      rw [HFT.out, if_pos rfl, List.append_nil]
     clear HFT
     go_wp2_with fail
     generalize wr.alloc (.cells #[.int .i64 x.s, .int .i64 x.n, .int .i64 x.b, .int .i64 x.a] 50) = W1 at *
     refine HD.out.mono ?_
     rintro y w2 ⟨rfl, hb2⟩
     have HN : Hid (DRelN p xs w base g n c i (j + 1) w2) := ⟨HBA.out.trans (hb2.mono (Nat.le_trans HBB.out HBA.out.size)), ys, HOA.out.later hb2, by rw [HFS.out]; exact HTK.out, drop_succN HDR.out⟩
     clear hb2 HD HBA HBX HOA c0 c1 c2 c3
     go_wp2_with fail
     go_roundw
     case rel => exact ⟨i, j + 1, rfl, by go_num, by omega, by omega, HN⟩
     case measure => simp [intOf]; omega
   ·have hle : (n : Int) ≤ (j : Int) := by omega
    have hjeq : j = n := by omega
    have HFIN : Hid (∀ vs, OwnT encN (wr.setCells g (i * 4) vs) base 50 (.slice (some ⟨g, 0, none⟩) i c) (xs.filter (fun x => !p x)) ∧ Below base w (wr.setCells g (i * 4) vs)) := fun vs => ⟨by
     have h := HOW.out.cutAt i (by omega) (by omega) vs
     rw [HTK.out, hjeq, ← HL.out, List.take_length] at h
     exact h, below_put HGB.out _ _ _ _ HBW.out⟩
    have HTH := Lib.hid (HOW.out.there i ((n - i) * 4) (by show i * 4 + (n - i) * 4 ≤ c * 4; omega) (by omega))
    have g1 : (i : Int) ≤ (n : Int) := by omega
    have g2 : (n : Int) ≤ (c : Int) := by omega
    have g3 : ¬ c - i = 0 := by omega
    have g4 : (i : Int) ≤ (c : Int) := by omega
    clear HBW HOW HTK HDR hjeq
    go_wp2_with (with_reducible refine stop_clear (.tmp 38) 43 rfl ?_)
    refine wpList_clear_t rfl (.tmp 38) 43 rfl 50 zeroVNc Try.underlying43 zeroVNc_run zeroVNc_one g (i * 4) _ _ ?hn rfl ?hc (fun vs => ?_)
    case hn => first | omega | (rw [HL.out]; omega)
    case hc => first | exact HTH.out | (rw [HL.out]; exact HTH.out)
    have HF2 := Lib.hid (HFIN.out vs)
    clear HFIN HTH
    generalize World.setCells wr g (i * 4) vs = W5 at *
    go_wp2_with fail
    go_ret
    exact ⟨_, rfl, HF2.out.1, HF2.out.2⟩
theorem madeTN (w : World) (base : Nat) (hb : base ≤ w.heap.size) : OwnT encN (w.alloc (.cells #[] 50)) base 50 (.slice (some ⟨w.heap.size, 0, none⟩) 0 0) [] := ⟨by simp, .inr ⟨w.heap.size, 0, #[], rfl, hb, heap_alloc_new w _, Nat.le_refl _, by decide, by simp, by simp⟩⟩
theorem stop_appendIN {P : Program} {ops : Array Oper} {rest : List Oper} {o : Oper} {a : Act} {w : World} {Q : Exit → Act → World → Prop} (s x : Operand) (t : TypeId)
  (_ : o.op = .call { callee := .builtin .append, args := #[s, x], argTypes := #[t, t] }) (h : Hid (wpList P ops Q (o :: rest) a w)) : wpList P ops Q (o :: rest) a w := h
set_option linter.unusedSimpArgs false in
set_option maxHeartbeats 4000000 in
set_option maxRecDepth 100000 in
theorem cloneNc_any (w : World) (v : Value) (xs : List Lin) (hr : TRow encN w v xs) (hn : xs.length ≤ 2000) :
  Calls Try.prog 22 #[v] w fun e w' => ∃ v', e = .returned v' ∧ OwnT encN w' w.heap.size 50 v' xs ∧ Below w.heap.size w w' := by
 obtain ⟨p, c, rfl⟩ := hr.shape
 cases p with
 | none =>
  have hx : xs = [] := by
   obtain ⟨p', c', e1, _, h⟩ := hr
   cases e1
   rcases h with h | ⟨b, o, h, _⟩
   ·exact h
   ·cases h
  subst hx
  clear hr
  have kq := Lib.run_eql_slice_nil (P := Try.prog) w 43 50 none 0 c 0 0 Try.underlying43
  simp only [List.length_nil]
  go_enter Try.func22, Try.ntmps22
  go_wp2
  go_ret
  exact ⟨_, rfl, OwnT.nil_ _ _ _ _, Below.refl _ _⟩
 | some a =>
  have HR := Lib.hid hr
  have HM := Lib.hid (madeTN w w.heap.size (Nat.le_refl _))
  have HB := Lib.hid (oneB w (.cells #[] 50))
  clear hr
  generalize hl : xs.length = n at *
  have HL := Lib.hid hl
  clear hl
  have kq := Lib.run_eql_slice_nil (P := Try.prog) w 43 50 (some a) n c 0 0 Try.underlying43
  go_enter Try.func22, Try.ntmps22
  go_wp2_with (at_builtin; with_reducible refine stop_appendIN (.tmp 5) (.tmp 6) 43 rfl ?_)
  refine wpList_append_t rfl (.tmp 5) (.tmp 6) 43 rfl 50 zeroVNc 32 w.heap.size eltNc rfl (by decide) (.slice (some ⟨w.heap.size, 0, none⟩) 0 0) (.slice (some a) n c) [] xs rfl rfl HM.out (HR.out.kept HB.out) (by have := HL.out; simp; omega) HB.out.size xs n (List.nil_append _) HL.out ?_
  intro p' c' w' ho _ hb
  have HO := Lib.hid ho
  have HB2 := Lib.hid (HB.out.trans hb)
  clear ho hb
  go_wp2_with fail
  go_ret
  exact ⟨_, rfl, HO.out, HB2.out⟩
set_option linter.unusedSimpArgs false in
set_option maxHeartbeats 4000000 in
set_option maxRecDepth 100000 in
theorem notmine_any (w : World) (x : Lin) (me : Int) (bf : Nat) (hf : w.cell? ⟨bf, 0, none⟩ = some (.int .i64 me)) :
  Calls Try.prog 68 #[x.v, .pointer (some ⟨bf, 0, none⟩)] w fun e w' => e = .returned (.bool (!mineB me x)) ∧ Below w.heap.size w w' := by
 have HB := Lib.hid (oneB w (.cells #[.int .i64 x.s, .int .i64 x.n, .int .i64 x.b, .int .i64 x.a] 50))
 have hf2 := (HB.out.cell (p := ⟨bf, 0, none⟩) (World.block_lt_of_cell? w _ hf)).trans hf
 clear hf
 unfold Lin.v at *
 by_cases h1 : x.s = me
 ·have e1 : (x.s != me) = false := by simpa using h1
  have HM : Hid ((!mineB me x) = false) := by show _ = _; unfold mineB; simp [h1]
  clear h1
  go_enter Try.func68, Try.ntmps68
  go_wp2_with fail
  go_ret
  exact ⟨by rw [HM.out]; rfl, HB.out⟩
 ·have e1 : (x.s != me) = true := by simpa using h1
  have HM : Hid ((x.b != me) = (!mineB me x)) := by
   show _ = _
   unfold mineB
   rw [Bool.eq_iff_iff]
   simp [h1]
  clear h1
  go_enter Try.func68, Try.ntmps68
  go_wp2_with fail
  go_ret
  exact ⟨by rw [← HM.out]; rfl, HB.out⟩
set_option linter.unusedSimpArgs false in
set_option maxHeartbeats 4000000 in
set_option maxRecDepth 100000 in
theorem mine_any (w : World) (me : Int) (v : Value) (xs : List Lin) (hr : TRow encN w v xs) (hn : xs.length ≤ 2000) :
  Calls Try.prog 53 #[.int .i64 me, v] w fun e w' => ∃ v', e = .returned v' ∧ OwnT encN w' w.heap.size 50 v' (mineL me xs) ∧ Below w.heap.size w w' := by
 obtain ⟨p, c, hv⟩ := hr.shape
 have HB := Lib.hid (oneB w (.cells #[.int .i64 me] 3))
 have HC := Lib.hid (cloneNc_any _ v xs (hr.kept HB.out) hn)
 have HBM := Lib.hid (Blk.new w #[.int .i64 me] 3)
 have hmf : ∀ (fn : Fn) (first cap : Array Value) (w : World), (Instr.makeFunc fn first cap).run Try.prog w = .ok (.func fn first cap) w := fun _ _ _ _ => rfl
 have HN := Lib.hid hn
 subst hv
 clear hr hn
 generalize hl : xs.length = n at *
 have HL := Lib.hid hl
 clear hl
 go_enter Try.func53, Try.ntmps53
 go_wp2_with fail
 have HZ : Hid ((w.alloc (.cells #[.int .i64 me] 3)).heap.size = w.heap.size + 1) := by show _ = _; simp
 generalize w.alloc (.cells #[.int .i64 me] 3) = W1 at *
 refine HC.out.mono ?_
 rintro y w1 ⟨v1, rfl, ho1, hb1⟩
 have HO1 : Hid (OwnT encN w1 (w.heap.size + 1) 50 v1 xs) := by have := ho1; rwa [HZ.out] at this
 have HB1 := ktq HB hb1
 have HM1 := kbq HBM hb1
 have HS1 : Hid (w.heap.size + 1 ≤ w1.heap.size) := by have := hb1.size; rw [HZ.out] at this; exact this
 clear ho1 hb1 HC
 have HSY : Hid (SaysN (fun x => !mineB me x) (w.heap.size + 1) w.heap.size w1) := fun W hW x => notmine_any W x me _ ((hW.cell (p := ⟨w.heap.size, 0, none⟩) (Nat.lt_succ_self _)).trans (HM1.out.cell 0))
 have HD := Lib.hid (delete_anyN w1 v1 xs (fun x => !mineB me x) (w.heap.size + 1) w.heap.size HO1.out HSY.out HS1.out (by rw [HL.out]; exact HN.out))
 obtain ⟨p1, c1, hv1⟩ := HO1.out.form
 rw [HL.out] at hv1
 subst hv1
 go_wp2_with fail
 refine HD.out.mono ?_
 rintro y w2 ⟨v2, rfl, ho2, hb2⟩
 have HF : Hid (xs.filter (fun x => !!mineB me x) = mineL me xs) := by show _ = _; unfold mineL; congr 1; funext x; simp
 have HO2 : Hid (OwnT encN w2 w.heap.size 50 v2 (mineL me xs)) := by have := ho2.less (show w.heap.size ≤ w.heap.size + 1 by omega); rw [HF.out] at this; exact this
 have HB2 := Lib.hid (HB1.out.trans (hb2.mono (Nat.le_succ _)))
 obtain ⟨p2, c2, hv2⟩ := HO2.out.form
 subst hv2
 clear ho2 hb2 HD HF
 generalize (mineL me xs).length = n2 at *
 go_wp2_with fail
 go_ret
 exact ⟨_, rfl, HO2.out, HB2.out⟩
end Go.Proofs.Ytmhocihajobkkaa
namespace Go.Proofs.Ytmhocihajobkkaa
open Go.RowKit
theorem eltAc : Elt Try.prog 44 2 .i64 8 := by
 have ht := Try.underlying44
 have h : (Try.prog.info? 2).map (fun i => (i.zero, i.size, i.bytes)) = some (some (.int .i64 0), 1, 8) := by kernel_rfl
 cases hi : Try.prog.info? 2 with
 | none => rw [hi] at h; cases h
 | some i =>
  rw [hi] at h
  simp only [Option.map_some, Option.some.injEq, Prod.mk.injEq] at h
  exact ⟨i, ht, hi, h.1, h.2.1, h.2.2⟩
theorem Row.atc {k : IntKind} {w : World} {p : Option Addr} {n c : Nat} {zs : List Int} (h : Row k w (.slice p n c) zs) (i : Nat) (hi : i < zs.length) : ∃ b o, p = some ⟨b, o, none⟩ ∧ b < w.heap.size ∧ w.cell? ⟨b, o + i, none⟩ = some (.int k (zs.getD i 0)) := by
 obtain ⟨p', c', e1, _, h⟩ := h
 cases e1
 rcases h with h | ⟨b, o, hp, h⟩
 ·subst h; simp at hi
 ·exact ⟨b, o, hp, World.block_lt_of_cell? w _ (h i hi), h i hi⟩
theorem eq_of_getD {a b : List Int} (hl : a.length = b.length) (h : ∀ j, j < a.length → a.getD j 0 = b.getD j 0) : a = b := by
 apply List.ext_getElem hl
 intro i h1 h2
 have := h i h1
 rwa [List.getD_eq_getElem?_getD, List.getElem?_eq_getElem h1, List.getD_eq_getElem?_getD, List.getElem?_eq_getElem h2] at this
set_option linter.unusedSimpArgs false in
set_option maxHeartbeats 4000000 in
set_option maxRecDepth 100000 in
theorem eq64_any (w : World) (v1 v2 : Value) (xs ys : List Int) (h1 : Row .i64 w v1 xs) (h2 : Row .i64 w v2 ys) (hn : xs.length ≤ 100000) :
  Calls Try.prog 70 #[v1, v2] w fun e w' => e = .returned (.bool (decide (xs = ys))) ∧ Below w.heap.size w w' := by
 obtain ⟨p1, c1, rfl⟩ := h1.shape
 obtain ⟨p2, c2, rfl⟩ := h2.shape
 have HR1 := Lib.hid h1
 have HR2 := Lib.hid h2
 clear h1 h2
 by_cases hl : xs.length = ys.length
 ·rw [← hl]
  rw [← hl] at HR2
  have HLL := Lib.hid hl
  clear hl
  generalize hl : xs.length = n at *
  have HL := Lib.hid hl
  clear hl
  go_enter Try.func70, Try.ntmps70
  go_wp2_with fail
  go_loopw [13] (fun i wr => ∃ k : Nat, k ≤ n ∧ i = .int .i64 k ∧ Hid (Below w.heap.size w wr ∧ ∀ j, j < k → xs.getD j 0 = ys.getD j 0)) (fun i _ => n - (intOf i).toNat)
  case atStart => exact ⟨0, by omega, rfl, ⟨Below.refl _ _, fun j hj => by omega⟩⟩
  case round =>
   obtain ⟨k, hk, rfl, HB⟩ := hrel
   by_cases hlt : k < n
   ·have hltI : (k : Int) < (n : Int) := by omega
    obtain ⟨b1, o1, rfl, hb1, d1⟩ := (HR1.out.kept HB.out.1).atc k (by rw [HL.out]; exact hlt)
    obtain ⟨b2, o2, rfl, hb2, d2⟩ := (HR2.out.kept HB.out.1).atc k (by rw [← HLL.out, ]; exact hlt)
    obtain ⟨x, hx⟩ : ∃ x, xs.getD k 0 = x := ⟨_, rfl⟩
    obtain ⟨y, hy⟩ : ∃ y, ys.getD k 0 = y := ⟨_, rfl⟩
    rw [hx] at d1
    rw [hy] at d2
    have HX := Lib.hid hx
    have HY := Lib.hid hy
    clear hx hy
    have hS1 : wr.drew.cell? ⟨b1, o1 + k, none⟩ = some (.int .i64 x) ∧ wr.drew.cell? ⟨b2, o2 + k, none⟩ = some (.int .i64 y) := ⟨d1, d2⟩
    go_wp2_with fail
    refine wp_region_held_drew (S := fun w' => w'.cell? ⟨b1, o1 + k, none⟩ = some (.int .i64 x) ∧ w'.cell? ⟨b2, o2 + k, none⟩ = some (.int .i64 y)) (by kernel_rfl) hS1 (fun hS0 => ?_)
    refine tkq 0 ?_
    refine tkq 1 ?_
    refine tkq 2 ?_
    refine tkq 3 ?_
    refine tkq 4 ?_
    refine tkq 5 ?_
    refine tkq 6 ?_
    refine tkq 7 ?_
    refine tkq 8 ?_
    refine wpAnyH_done (by kernel_rfl) ?_ _
    by_cases hxy : x = y
    ·have HN : Hid (Below w.heap.size w wr.drew ∧ ∀ j, j < k + 1 → xs.getD j 0 = ys.getD j 0) := ⟨HB.out.1.drew, fun j hj => by
      by_cases e : j = k
      ·subst e; rw [HX.out, HY.out, hxy]
      ·exact HB.out.2 j (by omega)⟩
     have e1 : (x != y) = false := by simpa using hxy
     clear hxy
     go_wp2_with fail
     go_roundw
     case rel => exact ⟨k + 1, by omega, by go_num, HN⟩
     case measure => simp [intOf]; omega
    ·have HE : Hid (decide (xs = ys) = false) := by
      show _ = _
      apply decide_eq_false
      intro h
      apply hxy
      rw [← HX.out, ← HY.out, h]
     have e1 : (x != y) = true := by simpa using hxy
     clear hxy
     go_wp2_with fail
     go_ret
     exact ⟨by rw [HE.out]; rfl, HB.out.1.drew⟩
   ·have hle : (n : Int) ≤ (k : Int) := by omega
    have HE : Hid (decide (xs = ys) = true) := decide_eq_true (eq_of_getD (by rw [HL.out]; exact HLL.out) fun j hj => HB.out.2 j (by have := HL.out; omega))
    go_wp2_with fail
    go_ret
    exact ⟨by rw [HE.out]; rfl, HB.out.1⟩
 ·have HE : Hid (decide (xs = ys) = false) := by
   show _ = _
   apply decide_eq_false
   intro h
   exact hl (by rw [h])
  have hne : ¬ (xs.length : Int) = (ys.length : Int) := by omega
  clear hl
  generalize xs.length = n at *
  generalize ys.length = m at *
  have e1 : ((n : Int) != (m : Int)) = true := by simpa using hne
  clear hne
  go_enter Try.func70, Try.ntmps70
  go_wp2_with fail
  go_ret
  exact ⟨by rw [HE.out]; rfl, Below.refl _ _⟩
def NRel (W2 : World) (me : Int) (ys : List Lin) (k : Nat) (v : Value) (wr : World) : Prop := Own .i64 wr W2.heap.size 2 v ((ys.take k).map (gives me)) ∧ Below W2.heap.size W2 wr
set_option linter.unusedSimpArgs false in
set_option maxHeartbeats 4000000 in
set_option maxRecDepth 100000 in
theorem net_any (w : World) (me : Int) (v : Value) (xs : List Lin) (hr : TRow encN w v xs) (hn : xs.length ≤ 2000) (ha : ∀ x ∈ xs, 1 ≤ x.a ∧ x.a ≤ 1125899906842624) :
  Calls Try.prog 77 #[.int .i64 me, v] w fun e w' => e = .returned (.tuple #[.int .i64 (netS me xs), .int .i64 0]) ∧ Below w.heap.size w w' := by
 obtain ⟨ys, hys⟩ : ∃ ys, mineL me xs = ys := ⟨_, rfl⟩
 have hM := mine_any w me v xs hr hn
 have HS : Hid (netS me xs = (ys.map (gives me)).sum) := by show _ = _; unfold netS netL; rw [hys]
 have ha : ∀ x ∈ ys, 1 ≤ x.a ∧ x.a ≤ 1125899906842624 := fun x hx => by rw [← hys] at hx; exact ha x (List.mem_filter.1 hx).1
 have hn : ys.length ≤ 2000 := by rw [← hys]; exact Nat.le_trans (List.length_filter_le _ _) hn
 rw [hys] at hM
 clear hys
 have hsm : ∀ z ∈ ys.map (gives me), -1125899906842624 ≤ z ∧ z ≤ 1125899906842624 := fun z hz => by
  obtain ⟨x, hx, rfl⟩ := List.mem_map.1 hz
  have := ha x hx
  unfold gives
  split <;> constructor <;> omega
 have H64 : Hid (All64 (ys.map (gives me))) := fun z hz => by have := hsm z hz; omega
 have HFT : Hid (Fits (ys.map (gives me)).sum) := by
  have h1 := sum_small hsm
  rw [List.length_map] at h1
  have h3 : (1125899906842624 : Int) * (ys.length : Int) ≤ 1125899906842624 * 2000 := Int.mul_le_mul_of_nonneg_left (by omega) (by omega)
  show Fits _
  unfold Fits
  omega
 have HSU : Hid (∀ W v, Row .i64 W v (ys.map (gives me)) → Calls Try.prog 80 #[v] W (SumTo (ys.map (gives me)).sum W)) := fun W v h => sum_any v _ W (by rw [List.length_map]; omega) H64.out h
 have HM := Lib.hid hM
 have HA := Lib.hid ha
 obtain ⟨pv, cv, hv⟩ := hr.shape
 generalize xs.length = nx at hv
 subst hv
 clear ha hM H64 hsm hr
 generalize hl : ys.length = n at *
 have HL := Lib.hid hl
 clear hl
 go_enter Try.func77, Try.ntmps77
 go_wp2_with fail
 refine HM.out.mono ?_
 rintro y W2 ⟨v1, rfl, ho1, hb1⟩
 obtain ⟨p1, c1, hv1⟩ := ho1.form
 rw [HL.out] at hv1
 subst hv1
 have HR := Lib.hid ho1.row
 have HB2 := Lib.hid hb1
 clear ho1 hb1 HM
 have HREL : Hid (NRel W2 me ys 0 (.slice none 0 0) W2) := ⟨Own.nil_ _ _ _ _, Below.refl _ _⟩
 go_wp2_with fail
 go_loopw [6, 13] (fun v i wr => ∃ k : Nat, k ≤ n ∧ i = .int .i64 k ∧ Hid (NRel W2 me ys k v wr)) (fun _ i _ => n - (intOf i).toNat)
 case atStart => exact ⟨0, by omega, rfl, HREL⟩
 case round =>
  obtain ⟨k, hk, rfl, HK⟩ := hrel
  clear HREL
  by_cases hlt : k < n
  ·have hkl : k < ys.length := by rw [HL.out]; exact hlt
   have hltI : (k : Int) < (n : Int) := by omega
   have HTK : Hid (ys.take (k + 1) = ys.take k ++ [ys[k]]) := List.take_succ_eq_append_getElem hkl
   obtain ⟨b, o, rfl, hbl, hcs⟩ := (HR.out.kept HK.out.2).at_ k hkl
   have hax := HA.out _ (List.getElem_mem hkl)
   generalize ys[k] = x at *
   have c0 : wr.cell? ⟨b, o + k * 4, none⟩ = some (.int .i64 x.s) := hcs 0 (by decide)
   have c1 : wr.cell? ⟨b, o + k * 4 + 1, none⟩ = some (.int .i64 x.n) := hcs 1 (by decide)
   have c2 : wr.cell? ⟨b, o + k * 4 + 2, none⟩ = some (.int .i64 x.b) := hcs 2 (by decide)
   have c3 : wr.cell? ⟨b, o + k * 4 + 3, none⟩ = some (.int .i64 x.a) := hcs 3 (by decide)
   have HSUC : Hid ((ys.take (k + 1)).map (gives me) = (ys.take k).map (gives me) ++ [gives me x]) := by
    show _ = _
    rw [HTK.out, List.map_append]; rfl
   have HZL : Hid (((ys.take k).map (gives me)).length ≤ 2000) := by show _ ≤ _; rw [List.length_map, List.length_take]; omega
   obtain ⟨ho1, hw1⟩ := HK.out
   obtain ⟨p2, c2, hv2⟩ := ho1.form
   generalize hz : (ys.take k).map (gives me) = zs at *
   generalize hm : zs.length = m at *
   subst hv2
   have hm2 : m ≤ 2000 := HZL.out
   have HMZ := Lib.hid hm
   have HO1 := Lib.hid (ho1.alloc (.cells #[.int .i64 x.s, .int .i64 x.n, .int .i64 x.b, .int .i64 x.a] 50))
   have HBR := Lib.hid hw1
   have HSZ : Hid (W2.heap.size ≤ wr.heap.size) := hw1.size
   clear ho1 hw1 HK hz hm HTK hcs
   by_cases hs : x.s = me
   ·have e1 : (x.s == me) = true := by simpa using hs
    have HAM : Hid (gives me x = x.a) := if_pos hs
    rw [HAM.out] at HSUC
    clear hs
    go_wp2_with (at_builtin; with_reducible refine stop_appendIN (.tmp 22) (.tmp 25) 44 rfl ?_)
    refine wpList_append_row rfl (.tmp 22) (.tmp 25) 44 rfl 2 .i64 8 W2.heap.size eltAc (.slice p2 m c2) (.slice (some ⟨wr.heap.size + 1, 0, none⟩) 1 1) zs [x.a] rfl rfl (HO1.out.alloc (.cells #[.int .i64 (x.a)] 2)) ⟨some ⟨wr.heap.size + 1, 0, none⟩, 1, rfl, Nat.le_refl _, .inr ⟨wr.heap.size + 1, 0, rfl, fun i hi => ?_⟩⟩ (by have := HMZ.out; simp; omega) (by have := HMZ.out; simp; omega) (by have := HSZ.out; simp at this ⊢; omega) (zs ++ [x.a]) (m + 1) rfl (by rw [List.length_append, HMZ.out]; rfl) ?_
    ·obtain rfl : i = 0 := by simp at hi; omega
     exact (Blk.new' (wr.alloc (.cells #[.int .i64 x.s, .int .i64 x.n, .int .i64 x.b, .int .i64 x.a] 50)) #[.int .i64 (x.a)] 2 (b := wr.heap.size + 1) (by simp)).cell 0
    intro p3 c3 w3 ho3 hb3
    have HNX : Hid (NRel W2 me ys (k + 1) (.slice p3 (m + 1) c3) w3) := ⟨by rw [HSUC.out]; exact ho3, HBR.out.trans ((((Below.refl _ wr).alloc HSZ.out _).alloc (by have := HSZ.out; simp; omega) _).trans hb3)⟩
    clear ho3 hb3
    go_wp2_with fail
    go_roundw
    case rel => exact ⟨k + 1, by omega, by go_num, HNX⟩
    case measure => simp [intOf]; omega
   ·have e1 : (x.s == me) = false := by simpa using hs
    have HAM : Hid (gives me x = -x.a) := if_neg hs
    rw [HAM.out] at HSUC
    clear hs
    go_wp2_with (at_builtin; with_reducible refine stop_appendIN (.tmp 27) (.tmp 31) 44 rfl ?_)
    refine wpList_append_row rfl (.tmp 27) (.tmp 31) 44 rfl 2 .i64 8 W2.heap.size eltAc (.slice p2 m c2) (.slice (some ⟨wr.heap.size + 1, 0, none⟩) 1 1) zs [-x.a] rfl rfl (HO1.out.alloc (.cells #[.int .i64 (-x.a)] 2)) ⟨some ⟨wr.heap.size + 1, 0, none⟩, 1, rfl, Nat.le_refl _, .inr ⟨wr.heap.size + 1, 0, rfl, fun i hi => ?_⟩⟩ (by have := HMZ.out; simp; omega) (by have := HMZ.out; simp; omega) (by have := HSZ.out; simp at this ⊢; omega) (zs ++ [-x.a]) (m + 1) rfl (by rw [List.length_append, HMZ.out]; rfl) ?_
    ·obtain rfl : i = 0 := by simp at hi; omega
     exact (Blk.new' (wr.alloc (.cells #[.int .i64 x.s, .int .i64 x.n, .int .i64 x.b, .int .i64 x.a] 50)) #[.int .i64 (-x.a)] 2 (b := wr.heap.size + 1) (by simp)).cell 0
    intro p3 c3 w3 ho3 hb3
    have HNX : Hid (NRel W2 me ys (k + 1) (.slice p3 (m + 1) c3) w3) := ⟨by rw [HSUC.out]; exact ho3, HBR.out.trans ((((Below.refl _ wr).alloc HSZ.out _).alloc (by have := HSZ.out; simp; omega) _).trans hb3)⟩
    clear ho3 hb3
    go_wp2_with fail
    go_roundw
    case rel => exact ⟨k + 1, by omega, by go_num, HNX⟩
    case measure => simp [intOf]; omega
  ·have hle : (n : Int) ≤ (k : Int) := by omega
   have hkn : k = ys.length := by rw [HL.out]; omega
   have hK := HK.out
   rw [hkn] at hK
   unfold NRel at hK
   rw [List.take_length] at hK
   have HSM := Lib.hid (HSU.out _ _ hK.1.row)
   have HW := Lib.hid (HB2.out.trans (hK.2.mono HB2.out.size))
   clear HK hK hkn
   go_wp2_with fail
   refine HSM.out.mono ?_
   rintro y w3 ⟨rfl, rfl⟩
   rw [sumN_yes HFT.out, sumE_yes HFT.out, ← HS.out]
   go_wp2_with fail
   go_ret2
   exact ⟨rfl, HW.out⟩
/-- What Nets answers. -/
def netsE (n : Int) (xs : List Lin) : Int := if n < 0 ∨ 8 < n then 1 else fitE n xs
def netsV (n : Int) (xs : List Lin) : List Int := if netsE n xs = 0 then netsL n.toNat xs else []
theorem netsL_succ (k : Nat) (xs : List Lin) : netsL (k + 1) xs = netsL k xs ++ [netS (k : Int) xs] := by
 unfold netsL
 rw [List.range_succ, List.map_append]
 rfl
theorem netsL_len (k : Nat) (xs : List Lin) : (netsL k xs).length = k := by unfold netsL; simp
theorem netsV_len_le (n : Int) (xs : List Lin) : (netsV n xs).length ≤ 8 := by
 unfold netsV
 split
 ·rename_i h
  rw [netsL_len]
  unfold netsE at h
  split at h
  ·cases h
  ·omega
 ·simp
def NsRel (w : World) (xs : List Lin) (k : Nat) (v : Value) (wr : World) : Prop := Own .i64 wr w.heap.size 2 v (netsL k xs) ∧ Below w.heap.size w wr
theorem within_a {n : Int} {x : Lin} (h : withinB n x = true) : 1 ≤ x.a ∧ x.a ≤ 1125899906842624 := by
 unfold withinB at h
 have := of_decide_eq_true h
 omega
set_option linter.unusedSimpArgs false in
set_option maxHeartbeats 4000000 in
set_option maxRecDepth 100000 in
theorem lnets_any (w : World) (N : Int) (v : Value) (xs : List Lin) (hr : TRow encN w v xs) (hn : xs.length ≤ 2000) :
  Calls Try.prog 69 #[.int .i64 N, v] w fun e w' => ∃ v', e = .returned (.tuple #[v', .int .i64 (netsE N xs)]) ∧ Own .i64 w' w.heap.size 2 v' (netsV N xs) ∧ Below w.heap.size w w' := by
 have HF := Lib.hid (fun W (h : Below w.heap.size w W) => lfits_any W N v xs (hr.kept h) (by omega))
 obtain ⟨pv, cv, hv⟩ := hr.shape
 have HR := Lib.hid hr
 have HN := Lib.hid hn
 generalize xs.length = nx at hv
 subst hv
 clear hr hn
 by_cases h0 : N < 0
 ·have HE : Hid (netsE N xs = 1) := if_pos (.inl h0)
  have HV : Hid (netsV N xs = []) := by show _ = _; unfold netsV; rw [HE.out, if_neg (by decide)]
  go_enter Try.func69, Try.ntmps69
  go_wp2_with fail
  go_ret2
  exact ⟨_, by rw [HE.out]; rfl, by rw [HV.out]; exact Own.nil_ _ _ _ _, Below.refl _ _⟩
 by_cases h8 : 8 < N
 ·have HE : Hid (netsE N xs = 1) := if_pos (.inr h8)
  have HV : Hid (netsV N xs = []) := by show _ = _; unfold netsV; rw [HE.out, if_neg (by decide)]
  go_enter Try.func69, Try.ntmps69
  go_wp2_with fail
  go_ret2
  exact ⟨_, by rw [HE.out]; rfl, by rw [HV.out]; exact Own.nil_ _ _ _ _, Below.refl _ _⟩
 have HE : Hid (netsE N xs = fitE N xs) := if_neg (by omega)
 have h0' : 0 ≤ N := by omega
 have h8' : N ≤ 8 := by omega
 by_cases hf : fitE N xs = 0
 ·have HV : Hid (netsV N xs = netsL N.toNat xs) := by show _ = _; unfold netsV; rw [HE.out, hf, if_pos rfl]
  have HFZ := Lib.hid hf
  have HA : Hid (∀ x ∈ xs, 1 ≤ x.a ∧ x.a ≤ 1125899906842624) := fun x hx => within_a (fit_within hf x hx)
  obtain ⟨n, rfl⟩ : ∃ n : Nat, N = (n : Int) := ⟨N.toNat, by omega⟩
  have hn8 : n ≤ 8 := by omega
  have HNT : Hid (((n : Nat) : Int).toNat = n) := by show _ = _; omega
  have HNE := Lib.hid (fun (k : Nat) (W : World) (h : Below w.heap.size w W) => net_any W (k : Int) _ xs (HR.out.kept h) HN.out HA.out)
  have HREL : Hid (NsRel w xs 0 (.slice none 0 0) w) := ⟨Own.nil_ _ _ _ _, Below.refl _ _⟩
  clear hf h0 h8 h0' h8'
  go_enter Try.func69, Try.ntmps69
  go_wp2_with fail
  refine (HF.out w (Below.refl _ _)).mono ?_
  rintro y w1 ⟨rfl, hb1⟩
  rw [HFZ.out]
  have HB1 := Lib.hid hb1
  have HREL : Hid (NsRel w xs 0 (.slice none 0 0) w1) := ⟨Own.nil_ _ _ _ _, hb1⟩
  clear hb1
  go_wp2_with fail
  go_loopw [7, 24] (fun v i wr => ∃ k : Nat, k ≤ n ∧ i = .int .i64 k ∧ Hid (NsRel w xs k v wr)) (fun _ i _ => n - (intOf i).toNat)
  case atStart => exact ⟨0, by omega, rfl, HREL⟩
  case round =>
   obtain ⟨k, hk, rfl, HK⟩ := hrel
   clear HREL
   by_cases hlt : k < n
   ·have hltI : (k : Int) < (n : Int) := by omega
    obtain ⟨ho1, hw1⟩ := HK.out
    obtain ⟨p2, c2, hv2⟩ := ho1.form
    rw [netsL_len] at hv2
    subst hv2
    have HO := Lib.hid ho1
    have HW := Lib.hid hw1
    clear ho1 hw1 HK
    go_wp2_with fail
    refine (HNE.out k wr HW.out).mono ?_
    rintro y w2 ⟨rfl, hb2⟩
    have HO2 := Lib.hid (HO.out.later hb2)
    have HW2 := ktq HW hb2
    have HSU := Lib.hid (netsL_succ k xs)
    have HKL := Lib.hid (netsL_len k xs)
    generalize netS (k : Int) xs = z at *
    generalize netsL k xs = zs at *
    clear hb2
    go_wp2_with (at_builtin; with_reducible refine stop_appendIN (.tmp 36) (.tmp 38) 44 rfl ?_)
    refine wpList_append_row rfl (.tmp 36) (.tmp 38) 44 rfl 2 .i64 8 w.heap.size eltAc (.slice p2 k c2) (.slice (some ⟨w2.heap.size, 0, none⟩) 1 1) zs [z] rfl rfl (HO2.out.alloc (.cells #[.int .i64 z] 2)) ⟨some ⟨w2.heap.size, 0, none⟩, 1, rfl, Nat.le_refl _, .inr ⟨w2.heap.size, 0, rfl, fun i hi => ?_⟩⟩ (by have := HKL.out; simp; omega) (by have := HKL.out; simp; omega) (by have := HW2.out.size; simp at this ⊢; omega) (zs ++ [z]) (k + 1) rfl (by rw [List.length_append, HKL.out]; rfl) ?_
    ·obtain rfl : i = 0 := by simp at hi; omega
     exact (Blk.new' w2 #[.int .i64 z] 2 rfl).cell 0
    intro p3 c3 w3 ho3 hb3
    have HNX : Hid (NsRel w xs (k + 1) (.slice p3 (k + 1) c3) w3) := ⟨by rw [HSU.out]; exact ho3, HW2.out.trans (((Below.refl _ w2).alloc HW2.out.size _).trans hb3)⟩
    clear ho3 hb3
    go_wp2_with fail
    go_roundw
    case rel => exact ⟨k + 1, by omega, by go_num, HNX⟩
    case measure => simp [intOf]; omega
   ·have hle : (n : Int) ≤ (k : Int) := by omega
    obtain rfl : k = n := by omega
    obtain ⟨ho1, hw1⟩ := HK.out
    obtain ⟨p2, c2, hv2⟩ := ho1.form
    rw [netsL_len] at hv2
    subst hv2
    have HO := Lib.hid ho1
    have HW := Lib.hid hw1
    clear ho1 hw1 HK
    go_wp2_with fail
    go_ret2
    exact ⟨_, by rw [HE.out, HFZ.out]; rfl, by rw [HV.out, HNT.out]; exact HO.out, HW.out⟩
 ·have HV : Hid (netsV N xs = []) := by show _ = _; unfold netsV; rw [HE.out, if_neg hf]
  obtain ⟨E, hE⟩ : ∃ E, fitE N xs = E := ⟨_, rfl⟩
  have HEE := Lib.hid hE
  rw [hE] at hf HE
  have e1 : (E != 0) = true := by simpa using hf
  clear hf h0 h8 hE
  go_enter Try.func69, Try.ntmps69
  go_wp2_with fail
  refine (HF.out w (Below.refl _ _)).mono ?_
  rintro y w1 ⟨rfl, hb1⟩
  rw [HEE.out]
  have HB1 := Lib.hid hb1
  clear hb1
  go_wp2_with fail
  go_ret2
  exact ⟨_, by rw [HE.out]; rfl, by rw [HV.out]; exact Own.nil_ _ _ _ _, HB1.out⟩
def rightE (xs : List Lin) (zs : List Int) : Int := if netsE zs.length xs ≠ 0 then netsE zs.length xs else if zs = netsL zs.length xs then 0 else 10
set_option linter.unusedSimpArgs false in
set_option maxHeartbeats 4000000 in
set_option maxRecDepth 100000 in
theorem lright_any (w : World) (v vz : Value) (xs : List Lin) (zs : List Int) (hr : TRow encN w v xs) (hn : xs.length ≤ 2000) (hz : Row .i64 w vz zs) (hzl : zs.length ≤ 100000) :
  Calls Try.prog 54 #[v, vz] w fun e w' => e = .returned (.int .i64 (rightE xs zs)) ∧ Below w.heap.size w w' := by
 have HN := Lib.hid (lnets_any w (zs.length : Int) v xs hr hn)
 obtain ⟨pv, cv, hv⟩ := hr.shape
 generalize xs.length = nx at hv
 subst hv
 obtain ⟨pz, cz, hv⟩ := hz.shape
 subst hv
 have HZ := Lib.hid hz
 have HZL := Lib.hid hzl
 have HNV : Hid (netsV (zs.length : Int) xs = if netsE (zs.length : Int) xs = 0 then netsL zs.length xs else []) := by show _ = _; unfold netsV; rw [Int.toNat_natCast]
 have HRE : Hid (rightE xs zs = if netsE zs.length xs ≠ 0 then netsE zs.length xs else if zs = netsL zs.length xs then 0 else 10) := rfl
 clear hr hn hz hzl
 obtain ⟨E, hE⟩ : ∃ E, netsE (zs.length : Int) xs = E := ⟨_, rfl⟩
 rw [hE] at HN HNV HRE
 clear hE
 generalize hl : zs.length = n at *
 have HL := Lib.hid hl
 clear hl
 by_cases h0 : E = 0
 ·subst h0
  rw [if_pos rfl] at HNV
  rw [if_neg (by simp)] at HRE
  go_enter Try.func54, Try.ntmps54
  go_wp2_with fail
  refine HN.out.mono ?_
  rintro y w1 ⟨v1, rfl, ho1, hb1⟩
  rw [HNV.out] at ho1
  have HQ := Lib.hid (eq64_any w1 _ v1 zs (netsL n xs) (HZ.out.kept hb1) ho1.row (by rw [HL.out]; exact HZL.out))
  obtain ⟨p1, c1, hv1⟩ := ho1.form
  rw [netsL_len] at hv1
  subst hv1
  have HB1 := Lib.hid hb1
  clear ho1 hb1 HN
  obtain ⟨B, hB⟩ : ∃ B, decide (zs = netsL n xs) = B := ⟨_, rfl⟩
  rw [hB] at HQ
  have HBB := Lib.hid hB
  clear hB
  go_wp2_with fail
  refine HQ.out.mono ?_
  rintro y w2 ⟨rfl, hb2⟩
  have HB2 := ktq HB1 hb2
  clear hb2 HQ
  cases B
  ·have HX : Hid (rightE xs zs = 10) := by show _ = _; rw [HRE.out, if_neg (of_decide_eq_false HBB.out)]
   go_wp2_with fail
   go_ret
   exact ⟨by rw [HX.out]; rfl, HB2.out⟩
  ·have HX : Hid (rightE xs zs = 0) := by show _ = _; rw [HRE.out, if_pos (of_decide_eq_true HBB.out)]
   go_wp2_with fail
   go_ret
   exact ⟨by rw [HX.out]; rfl, HB2.out⟩
 ·rw [if_neg h0] at HNV
  rw [if_pos h0] at HRE
  have e1 : (E != 0) = true := by simpa using h0
  clear h0
  go_enter Try.func54, Try.ntmps54
  go_wp2_with fail
  refine HN.out.mono ?_
  rintro y w1 ⟨v1, rfl, ho1, hb1⟩
  rw [HNV.out] at ho1
  obtain ⟨p1, c1, hv1⟩ := ho1.form
  subst hv1
  have HB1 := Lib.hid hb1
  clear ho1 hb1 HN
  simp only [List.length_nil]
  go_wp2_with fail
  go_ret
  exact ⟨by rw [HRE.out]; rfl, HB1.out⟩
end Go.Proofs.Ytmhocihajobkkaa
namespace Go.Proofs.Ytmhocihajobkkaa
open Go.RowKit
set_option linter.unusedSimpArgs false
/-- Is what was reckoned right, and has the book what the entity is part of? -/
def prepB (me N : Int) (xs : List Itm) (m : Msg) : Bool := decide ((m.ns.length : Int) = N) && (decide (rightE m.ls m.ns = 0) && holdsB xs m.y (mineL me m.ls))
/-- What prepare answers. -/
def PrepG (me N : Int) (ps : List PtX) (xs : List Itm) (m : Msg) (ps2 : List PtX) (xs2 : List Itm) (out : List SdX) (e : Int) : Prop :=
 xs2 = xs ∧ ((openP ps m.y).2 ≠ 0 → ps2 = ps ∧ out = [] ∧ e = (openP ps m.y).2) ∧ ((openP ps m.y).2 = 0 → (openP ps m.y).1.st ≠ 1 → ps2 = ps ∧ out = [] ∧ e = 90) ∧
 ((openP ps m.y).2 = 0 → (openP ps m.y).1.st = 1 → e = 0 ∧ out = [⟨N, sayX 13 m.y (prepB me N xs m)⟩] ∧
  (prepB me N xs m = false → ps2 = insC ps ⟨(openP ps m.y).1.cy, (openP ps m.y).1.cu, 3, (openP ps m.y).1.p, (openP ps m.y).1.c, (openP ps m.y).1.ls⟩) ∧
  (prepB me N xs m = true → ∃ lp lc, ps2 = insC ps ⟨(openP ps m.y).1.cy, (openP ps m.y).1.cu, 2, lp, lc, mineL me m.ls⟩))
theorem insC_mem {X : List PtX} {x y : PtX} (h : y ∈ insC X x) : y = x ∨ y ∈ X := by
 unfold insC at h
 simp only [List.mem_append, List.mem_filter, List.mem_singleton] at h
 rcases h with (h | h) | h
 ·exact .inr h.1
 ·exact .inl h
 ·exact .inr h.1
theorem insC_sorted {X : List PtX} {x : PtX} (hs : SortedP (X.map posC)) : SortedP ((insC X x).map posC) := by
 have hsub : ∀ p : PtX → Bool, SortedP ((X.filter p).map posC) := fun p => List.Pairwise.sublist ((List.filter_sublist).map posC) hs
 unfold SortedP insC
 rw [List.map_append, List.map_append, List.pairwise_append, List.pairwise_append]
 refine ⟨⟨hsub _, by simp, ?_⟩, hsub _, ?_⟩
 ·intro a ha b hb
  obtain ⟨z, hz, rfl⟩ := List.mem_map.1 ha
  have hb2 : b = posC x := by simpa using hb
  subst hb2
  have h1 : z.cy < x.cy := of_decide_eq_true (List.mem_filter.1 hz).2
  rw [ordP_lt]
  unfold posC
  dsimp only
  omega
 ·intro a ha b hb
  obtain ⟨y, hy, rfl⟩ := List.mem_map.1 hb
  have hyx : x.cy < y.cy := of_decide_eq_true (List.mem_filter.1 hy).2
  rcases List.mem_append.1 ha with ha | ha
  ·obtain ⟨z, hz, rfl⟩ := List.mem_map.1 ha
   have hzx : z.cy < x.cy := of_decide_eq_true (List.mem_filter.1 hz).2
   rw [ordP_lt]
   unfold posC
   dsimp only
   omega
  ·have ha2 : a = posC x := by simpa using ha
   subst ha2
   rw [ordP_lt]
   unfold posC
   dsimp only
   omega
/-- The cycles with one put in, as they lie. -/
theorem insC_pts {P Q : Nat → Prop} {w w' : World} {v v' : Value} {ps : List PtX} {x : PtX} {base : Nat} (h : PtsR P w v ps) (hb : Below w.heap.size w w') (ho : OwnT encP w' base 58 v' (insC ps x)) (hx : TRow encN w' (.slice x.p x.ls.length x.c) x.ls ∧ At Q (.slice x.p x.ls.length x.c) x.ls.length) (hp : ∀ b, P b → Q b) (hq : ∀ b, base ≤ b → Q b) : PtsR Q w' v' (insC ps x) := by
 refine ⟨ho.row, ho.at_P hq, ?_, insC_sorted h.srt⟩
 intro z hz
 rcases insC_mem hz with rfl | hz
 ·exact hx
 ·exact ⟨(h.ls z hz).1.kept hb, (h.ls z hz).2.imp hp⟩
theorem openP_mem {ps : List PtX} {cy : Int} {q : PtX} (h : openP ps cy = (q, 0)) : q ∈ ps := by
 unfold openP at h
 split at h
 ·cases h
 ·rename_i z hz
  split at h
  ·cases h
  ·cases h
   exact List.mem_of_find?_eq_some hz
set_option linter.unusedSimpArgs false in
set_option maxHeartbeats 4000000 in
set_option maxRecDepth 100000 in
theorem vprepare_any (w : World) (P : Nat → Prop) (me N mb : Int) (p : Option Addr) (n c : Nat) (pi : Option Addr) (ni ci : Nat) (po : Option Addr) (no co : Nat) (ps : List PtX) (xs : List Itm) (y : MsgX) (hv : VIn w P p n c pi ni ci ps xs) (hin : y.In w) (hls : y.m.ls.length ≤ 2000) (hns : y.m.ns.length ≤ 100000) :
  Calls Try.prog 31 #[.agg #[.int .i64 me, .int .i64 N, .slice p n c], bookV mb (.slice pi ni ci) (.slice po no co), y.m.v (.slice y.pl y.m.ls.length y.cl) (.slice y.pn y.m.ns.length y.cn)] w (VPost w P me N mb po no co (PrepG me N ps xs y.m)) := by
 have HV := Lib.hid hv
 have HIN := Lib.hid hin
 have HLN : Hid (y.m.ls.length ≤ 2000 ∧ y.m.ns.length ≤ 100000) := ⟨hls, hns⟩
 clear hv hin hls hns
 unfold bookV Msg.v
 have HB0 : Hid (Below w.heap.size w (((((w.alloc (.cells #[.int .i64 me, .int .i64 N, .slice p n c] 36)).alloc (.cells #[.int .i64 mb, .slice pi ni ci, .slice po no co] 28)).alloc (.cells #[.int .i64 y.m.k, .int .i64 y.m.s, .int .i64 y.m.n, .int .i64 y.m.b, .int .i64 y.m.c, .int .i64 y.m.r, .int .i64 y.m.y, .int .i64 y.m.a, .bool y.m.t, .slice y.pl y.m.ls.length y.cl, .slice y.pn y.m.ns.length y.cn] 46)).alloc (.cells #[.int .i64 0, .int .i64 0, .slice none 0 0] 36)).alloc (.cells #[.int .i64 0, .slice none 0 0, .slice none 0 0] 28))) := Lib.hid ((((((oneB w _).alloc (by simp <;> omega) _).alloc (by simp <;> omega) _).alloc (by simp <;> omega) _).alloc (by simp <;> omega) _))
 have Hp0 : Hid (Blk (((((w.alloc (.cells #[.int .i64 me, .int .i64 N, .slice p n c] 36)).alloc (.cells #[.int .i64 mb, .slice pi ni ci, .slice po no co] 28)).alloc (.cells #[.int .i64 y.m.k, .int .i64 y.m.s, .int .i64 y.m.n, .int .i64 y.m.b, .int .i64 y.m.c, .int .i64 y.m.r, .int .i64 y.m.y, .int .i64 y.m.a, .bool y.m.t, .slice y.pl y.m.ls.length y.cl, .slice y.pn y.m.ns.length y.cn] 46)).alloc (.cells #[.int .i64 0, .int .i64 0, .slice none 0 0] 36)).alloc (.cells #[.int .i64 0, .slice none 0 0, .slice none 0 0] 28)) w.heap.size #[.int .i64 me, .int .i64 N, .slice p n c] 36) := Lib.hid (((((Blk.new w #[.int .i64 me, .int .i64 N, .slice p n c] 36).alloc _).alloc _).alloc _).alloc _)
 have Hb0 : Hid (Blk (((((w.alloc (.cells #[.int .i64 me, .int .i64 N, .slice p n c] 36)).alloc (.cells #[.int .i64 mb, .slice pi ni ci, .slice po no co] 28)).alloc (.cells #[.int .i64 y.m.k, .int .i64 y.m.s, .int .i64 y.m.n, .int .i64 y.m.b, .int .i64 y.m.c, .int .i64 y.m.r, .int .i64 y.m.y, .int .i64 y.m.a, .bool y.m.t, .slice y.pl y.m.ls.length y.cl, .slice y.pn y.m.ns.length y.cn] 46)).alloc (.cells #[.int .i64 0, .int .i64 0, .slice none 0 0] 36)).alloc (.cells #[.int .i64 0, .slice none 0 0, .slice none 0 0] 28)) (w.heap.size + 1) #[.int .i64 mb, .slice pi ni ci, .slice po no co] 28) := Lib.hid ((((Blk.new' (w.alloc (.cells #[.int .i64 me, .int .i64 N, .slice p n c] 36)) #[.int .i64 mb, .slice pi ni ci, .slice po no co] 28 (by simp)).alloc _).alloc _).alloc _)
 have Hm0 : Hid (Blk (((((w.alloc (.cells #[.int .i64 me, .int .i64 N, .slice p n c] 36)).alloc (.cells #[.int .i64 mb, .slice pi ni ci, .slice po no co] 28)).alloc (.cells #[.int .i64 y.m.k, .int .i64 y.m.s, .int .i64 y.m.n, .int .i64 y.m.b, .int .i64 y.m.c, .int .i64 y.m.r, .int .i64 y.m.y, .int .i64 y.m.a, .bool y.m.t, .slice y.pl y.m.ls.length y.cl, .slice y.pn y.m.ns.length y.cn] 46)).alloc (.cells #[.int .i64 0, .int .i64 0, .slice none 0 0] 36)).alloc (.cells #[.int .i64 0, .slice none 0 0, .slice none 0 0] 28)) (w.heap.size + 1 + 1) #[.int .i64 y.m.k, .int .i64 y.m.s, .int .i64 y.m.n, .int .i64 y.m.b, .int .i64 y.m.c, .int .i64 y.m.r, .int .i64 y.m.y, .int .i64 y.m.a, .bool y.m.t, .slice y.pl y.m.ls.length y.cl, .slice y.pn y.m.ns.length y.cn] 46) := Lib.hid (((Blk.new' ((w.alloc (.cells #[.int .i64 me, .int .i64 N, .slice p n c] 36)).alloc (.cells #[.int .i64 mb, .slice pi ni ci, .slice po no co] 28)) #[.int .i64 y.m.k, .int .i64 y.m.s, .int .i64 y.m.n, .int .i64 y.m.b, .int .i64 y.m.c, .int .i64 y.m.r, .int .i64 y.m.y, .int .i64 y.m.a, .bool y.m.t, .slice y.pl y.m.ls.length y.cl, .slice y.pn y.m.ns.length y.cn] 46 (by simp)).alloc _).alloc _)
 have Hrp0 : Hid (Blk (((((w.alloc (.cells #[.int .i64 me, .int .i64 N, .slice p n c] 36)).alloc (.cells #[.int .i64 mb, .slice pi ni ci, .slice po no co] 28)).alloc (.cells #[.int .i64 y.m.k, .int .i64 y.m.s, .int .i64 y.m.n, .int .i64 y.m.b, .int .i64 y.m.c, .int .i64 y.m.r, .int .i64 y.m.y, .int .i64 y.m.a, .bool y.m.t, .slice y.pl y.m.ls.length y.cl, .slice y.pn y.m.ns.length y.cn] 46)).alloc (.cells #[.int .i64 0, .int .i64 0, .slice none 0 0] 36)).alloc (.cells #[.int .i64 0, .slice none 0 0, .slice none 0 0] 28)) (w.heap.size + 1 + 1 + 1) #[.int .i64 0, .int .i64 0, .slice none 0 0] 36) := Lib.hid ((Blk.new' (((w.alloc (.cells #[.int .i64 me, .int .i64 N, .slice p n c] 36)).alloc (.cells #[.int .i64 mb, .slice pi ni ci, .slice po no co] 28)).alloc (.cells #[.int .i64 y.m.k, .int .i64 y.m.s, .int .i64 y.m.n, .int .i64 y.m.b, .int .i64 y.m.c, .int .i64 y.m.r, .int .i64 y.m.y, .int .i64 y.m.a, .bool y.m.t, .slice y.pl y.m.ls.length y.cl, .slice y.pn y.m.ns.length y.cn] 46)) #[.int .i64 0, .int .i64 0, .slice none 0 0] 36 (by simp)).alloc _)
 have Hrb0 : Hid (Blk (((((w.alloc (.cells #[.int .i64 me, .int .i64 N, .slice p n c] 36)).alloc (.cells #[.int .i64 mb, .slice pi ni ci, .slice po no co] 28)).alloc (.cells #[.int .i64 y.m.k, .int .i64 y.m.s, .int .i64 y.m.n, .int .i64 y.m.b, .int .i64 y.m.c, .int .i64 y.m.r, .int .i64 y.m.y, .int .i64 y.m.a, .bool y.m.t, .slice y.pl y.m.ls.length y.cl, .slice y.pn y.m.ns.length y.cn] 46)).alloc (.cells #[.int .i64 0, .int .i64 0, .slice none 0 0] 36)).alloc (.cells #[.int .i64 0, .slice none 0 0, .slice none 0 0] 28)) (w.heap.size + 1 + 1 + 1 + 1) #[.int .i64 0, .slice none 0 0, .slice none 0 0] 28) := Lib.hid (Blk.new' ((((w.alloc (.cells #[.int .i64 me, .int .i64 N, .slice p n c] 36)).alloc (.cells #[.int .i64 mb, .slice pi ni ci, .slice po no co] 28)).alloc (.cells #[.int .i64 y.m.k, .int .i64 y.m.s, .int .i64 y.m.n, .int .i64 y.m.b, .int .i64 y.m.c, .int .i64 y.m.r, .int .i64 y.m.y, .int .i64 y.m.a, .bool y.m.t, .slice y.pl y.m.ls.length y.cl, .slice y.pn y.m.ns.length y.cn] 46)).alloc (.cells #[.int .i64 0, .int .i64 0, .slice none 0 0] 36)) #[.int .i64 0, .slice none 0 0, .slice none 0 0] 28 (by simp))
 have HZ0 : Hid (w.heap.size ≤ (((((w.alloc (.cells #[.int .i64 me, .int .i64 N, .slice p n c] 36)).alloc (.cells #[.int .i64 mb, .slice pi ni ci, .slice po no co] 28)).alloc (.cells #[.int .i64 y.m.k, .int .i64 y.m.s, .int .i64 y.m.n, .int .i64 y.m.b, .int .i64 y.m.c, .int .i64 y.m.r, .int .i64 y.m.y, .int .i64 y.m.a, .bool y.m.t, .slice y.pl y.m.ls.length y.cl, .slice y.pn y.m.ns.length y.cn] 46)).alloc (.cells #[.int .i64 0, .int .i64 0, .slice none 0 0] 36)).alloc (.cells #[.int .i64 0, .slice none 0 0, .slice none 0 0] 28)).heap.size) := Lib.hid HB0.out.size
 go_enter Try.func31, Try.ntmps31
 go_upto_region 1 with fail
 generalize (((((w.alloc (.cells #[.int .i64 me, .int .i64 N, .slice p n c] 36)).alloc (.cells #[.int .i64 mb, .slice pi ni ci, .slice po no co] 28)).alloc (.cells #[.int .i64 y.m.k, .int .i64 y.m.s, .int .i64 y.m.n, .int .i64 y.m.b, .int .i64 y.m.c, .int .i64 y.m.r, .int .i64 y.m.y, .int .i64 y.m.a, .bool y.m.t, .slice y.pl y.m.ls.length y.cl, .slice y.pn y.m.ns.length y.cn] 46)).alloc (.cells #[.int .i64 0, .int .i64 0, .slice none 0 0] 36)).alloc (.cells #[.int .i64 0, .slice none 0 0, .slice none 0 0] 28)) = W at *
 have HG := Lib.hid (open_any W me N p n c ps y.m.y (HV.out.pts.row.kept HB0.out) HV.out.np.1 (by have := HV.out.np; omega) HV.out.pts.srt)
 obtain ⟨⟨q, f⟩, hq⟩ : ∃ r, openP ps y.m.y = r := ⟨_, rfl⟩
 rw [hq] at HG
 have HQ := Lib.hid hq
 clear hq
 unfold PtX.v at HG
 have a0 : W.cell? ⟨w.heap.size, 0, none⟩ = some (.int .i64 me) := Hp0.out.cell 0
 have a1 : W.cell? ⟨w.heap.size, 1, none⟩ = some (.int .i64 N) := Hp0.out.cell 1
 have a2 : W.cell? ⟨w.heap.size, 2, none⟩ = some (.slice p n c) := Hp0.out.cell 2
 have c6 : W.cell? ⟨(w.heap.size + 1 + 1), 6, none⟩ = some (.int .i64 y.m.y) := Hm0.out.cell 6
 go_wp2_with fail
 clear a0 a1 a2 c6
 refine HG.out.mono ?_
 rintro y9 w1 ⟨rfl, hb⟩
 clear HG
 have Hp1 := kbq Hp0 hb
 have Hb1 := kbq Hb0 hb
 have Hm1 := kbq Hm0 hb
 have Hrp1 := kbq Hrp0 hb
 have Hrb1 := kbq Hrb0 hb
 have HB1 := ktq HB0 hb
 have HZ1 := kzq HZ0 hb.size
 clear Hp0 Hb0 Hm0 Hrp0 Hrb0 HB0 HZ0
 clear hb
 have HGQ9 : Hid (w.heap.size + 1 + 1 + 1 + 1 < w1.heap.size) := Lib.hid Hrb1.out.lt
 have Hp2 := Lib.hid (Hp1.out.alloc (.cells #[.int .i64 q.cy, .int .i64 q.cu, .int .i64 q.st, .slice q.p q.ls.length q.c] 58))
 have Hb2 := Lib.hid (Hb1.out.alloc (.cells #[.int .i64 q.cy, .int .i64 q.cu, .int .i64 q.st, .slice q.p q.ls.length q.c] 58))
 have Hm2 := Lib.hid (Hm1.out.alloc (.cells #[.int .i64 q.cy, .int .i64 q.cu, .int .i64 q.st, .slice q.p q.ls.length q.c] 58))
 have Hrp2 := Lib.hid (Hrp1.out.alloc (.cells #[.int .i64 q.cy, .int .i64 q.cu, .int .i64 q.st, .slice q.p q.ls.length q.c] 58))
 have Hrb2 := Lib.hid (Hrb1.out.alloc (.cells #[.int .i64 q.cy, .int .i64 q.cu, .int .i64 q.st, .slice q.p q.ls.length q.c] 58))
 have Hq2 := Lib.hid (Blk.new w1 #[.int .i64 q.cy, .int .i64 q.cu, .int .i64 q.st, .slice q.p q.ls.length q.c] 58)
 have HB2 := Lib.hid (HB1.out.alloc HB1.out.size (.cells #[.int .i64 q.cy, .int .i64 q.cu, .int .i64 q.st, .slice q.p q.ls.length q.c] 58))
 have HZ2 := kzq HZ1 (oneB w1 (.cells #[.int .i64 q.cy, .int .i64 q.cu, .int .i64 q.st, .slice q.p q.ls.length q.c] 58)).size
 clear Hp1 Hb1 Hm1 Hrp1 Hrb1 HB1 HZ1
 go_upto_region 2 with fail
 have HGQ0 : Hid (w.heap.size + 1 + 1 + 1 + 1 < w1.heap.size) := HGQ9
 generalize (w1.alloc (.cells #[.int .i64 q.cy, .int .i64 q.cu, .int .i64 q.st, .slice q.p q.ls.length q.c] 58)) = W1 at *
 generalize hggq : w1.heap.size = gq at *
 have HGQ : Hid (w.heap.size + 1 + 1 + 1 + 1 < gq) := HGQ0
 by_cases hf : f = 0
 ·subst hf
  have x2 : W1.cell? ⟨gq, 2, none⟩ = some (.int .i64 q.st) := Hq2.out.cell 2
  by_cases h1 : q.st = 1
  ·have h1b : (q.st != 1) = false := by simpa using h1
   have HST := Lib.hid h1
   clear h1
   go_upto_region 6 with fail
   clear x2 h1b
   have z2 : W1.cell? ⟨gq, 2, none⟩ = some (.int .i64 q.st) := Hq2.out.cell 2
   have f2 := Hq2.out.free 2
   go_upto_region 7 with fail
   clear z2 f2
   have hch := Lib.hid ((Chg.refl gq W1).set 2 (.int .i64 3))
   have Hq3 : Hid (Blk _ gq #[.int .i64 q.cy, .int .i64 q.cu, .int .i64 3, .slice q.p q.ls.length q.c] 58) := Lib.hid (Hq2.out.set 2 (.int .i64 3))
   have HB3 := ksq HB2 hch (by show w.heap.size ≤ gq; have := HGQ.out; omega)
   have HZ3 := kzq HZ2 hch.out.size
   have Hp3 := kcq Hp2 hch (by have := HGQ.out; omega)
   have Hb3 := kcq Hb2 hch (by have := HGQ.out; omega)
   have Hm3 := kcq Hm2 hch (by have := HGQ.out; omega)
   have Hrp3 := kcq Hrp2 hch (by have := HGQ.out; omega)
   have Hrb3 := kcq Hrb2 hch (by have := HGQ.out; omega)
   clear hch Hp2 Hb2 Hm2 Hrp2 Hrb2 Hq2 HB2 HZ2
   generalize (W1.setCell ⟨gq, 2, none⟩ (.int .i64 3)) = W6 at *
   have HG := Lib.hid (mine_any W6 me (.slice y.pl y.m.ls.length y.cl) y.m.ls (HIN.out.1.kept HB3.out) HLN.out.1)
   have a0 : W6.cell? ⟨w.heap.size, 0, none⟩ = some (.int .i64 me) := Hp3.out.cell 0
   have c9 : W6.cell? ⟨(w.heap.size + 1 + 1), 9, none⟩ = some (.slice y.pl y.m.ls.length y.cl) := Hm3.out.cell 9
   go_wp2_with fail
   clear a0 c9
   refine HG.out.mono ?_
   rintro y9 w7 ⟨vm, rfl, hown, hb⟩
   clear HG
   have HM0 := Lib.hid hown
   have HSZ : Hid (w.heap.size ≤ W6.heap.size) := Lib.hid HB3.out.size
   have HGM : Hid (∀ g, vm.ownBlock = some g → gq < g) := fun g hg => by have h1 := hown.block_ge g hg; have h2 := Hq3.out.lt; omega
   clear hown
   have Hp4 := kbq Hp3 hb
   have Hb4 := kbq Hb3 hb
   have Hm4 := kbq Hm3 hb
   have Hrp4 := kbq Hrp3 hb
   have Hrb4 := kbq Hrb3 hb
   have Hq4 := kbq Hq3 hb
   have HB4 := ktq HB3 hb
   have HZ4 := kzq HZ3 hb.size
   clear Hp3 Hb3 Hm3 Hrp3 Hrb3 Hq3 HB3 HZ3
   clear hb
   have Sm4 := HM0
   clear HM0
   obtain ⟨pm, cm, hvm⟩ := Sm4.out.form
   obtain ⟨ml, hml⟩ : ∃ l, mineL me y.m.ls = l := ⟨_, rfl⟩
   have HML := Lib.hid hml
   rw [hml] at Sm4 hvm
   clear hml
   obtain ⟨nm, hnm⟩ : ∃ k, ml.length = k := ⟨_, rfl⟩
   rw [hnm] at hvm
   have HNM := Lib.hid hnm
   clear hnm
   subst hvm
   go_upto_region 8 with fail
   have c9 : w7.cell? ⟨(w.heap.size + 1 + 1), 9, none⟩ = some (.slice y.pl y.m.ls.length y.cl) := Hm4.out.cell 9
   have c10 : w7.cell? ⟨(w.heap.size + 1 + 1), 10, none⟩ = some (.slice y.pn y.m.ns.length y.cn) := Hm4.out.cell 10
   have a1 : w7.cell? ⟨w.heap.size, 1, none⟩ = some (.int .i64 N) := Hp4.out.cell 1
   by_cases hN : (y.m.ns.length : Int) = N
   ·have hNb : ((y.m.ns.length : Int) == N) = true := by simpa using hN
    have HNE := Lib.hid hN
    clear hN
    have HG := Lib.hid (lright_any w7 (.slice y.pl y.m.ls.length y.cl) (.slice y.pn y.m.ns.length y.cn) y.m.ls y.m.ns (HIN.out.1.kept HB4.out) HLN.out.1 (HIN.out.2.kept HB4.out) HLN.out.2)
    obtain ⟨rE, hrE⟩ : ∃ z, rightE y.m.ls y.m.ns = z := ⟨_, rfl⟩
    rw [hrE] at HG
    have HRE := Lib.hid hrE
    clear hrE
    go_wp2_with fail
    clear c9 c10 a1 hNb
    refine HG.out.mono ?_
    rintro y9 w8 ⟨rfl, hb⟩
    clear HG
    have Hp5 := kbq Hp4 hb
    have Hb5 := kbq Hb4 hb
    have Hm5 := kbq Hm4 hb
    have Hrp5 := kbq Hrp4 hb
    have Hrb5 := kbq Hrb4 hb
    have Hq5 := kbq Hq4 hb
    have Sm5 := Lib.hid (Sm4.out.later hb)
    have HB5 := ktq HB4 hb
    have HZ5 := kzq HZ4 hb.size
    clear Hp4 Hb4 Hm4 Hrp4 Hrb4 Hq4 Sm4 HB4 HZ4
    clear hb
    by_cases hr0 : rE = 0
    ·subst hr0
     have HG := Lib.hid (holds_any w8 mb y.m.y pi po ni ci no co xs pm nm cm ml (HV.out.its.kept HB5.out) HV.out.nx.1.symm (by have := HV.out.nx; omega) HV.out.srt (by have h := Sm5.out.row; exact h) HNM.out.symm (by have h1 := HNM.out; have h2 := HML.out; have h3 := HLN.out.1; rw [← h1, ← h2]; exact Nat.le_trans (List.length_filter_le _ _) (by omega)))
     obtain ⟨D, hD⟩ : ∃ z, holdsB xs y.m.y ml = z := ⟨_, rfl⟩
     rw [hD] at HG
     have HDD := Lib.hid hD
     clear hD
     unfold bookV at HG
     have a0 : w8.cell? ⟨(w.heap.size + 1), 0, none⟩ = some (.int .i64 mb) := Hb5.out.cell 0
     have a1 : w8.cell? ⟨(w.heap.size + 1), 1, none⟩ = some (.slice pi ni ci) := Hb5.out.cell 1
     have a2 : w8.cell? ⟨(w.heap.size + 1), 2, none⟩ = some (.slice po no co) := Hb5.out.cell 2
     have c6 : w8.cell? ⟨(w.heap.size + 1 + 1), 6, none⟩ = some (.int .i64 y.m.y) := Hm5.out.cell 6
     go_wp2_with fail
     clear a0 a1 a2 c6
     refine HG.out.mono ?_
     rintro y9 w9 ⟨rfl, hb⟩
     clear HG
     have Hp6 := kbq Hp5 hb
     have Hb6 := kbq Hb5 hb
     have Hm6 := kbq Hm5 hb
     have Hrp6 := kbq Hrp5 hb
     have Hrb6 := kbq Hrb5 hb
     have Hq6 := kbq Hq5 hb
     have Sm6 := Lib.hid (Sm5.out.later hb)
     have HB6 := ktq HB5 hb
     have HZ6 := kzq HZ5 hb.size
     clear Hp5 Hb5 Hm5 Hrp5 Hrb5 Hq5 Sm5 HB5 HZ5
     clear hb
     cases D with
     | true =>
      have HPB : Hid (prepB me N xs y.m = true) := by
       show _ = _
       unfold prepB
       rw [decide_eq_true HNE.out, decide_eq_true HRE.out, HML.out, HDD.out]; rfl
      go_upto_region 9 with fail
      have z2 : w9.cell? ⟨gq, 2, none⟩ = some (.int .i64 3) := Hq6.out.cell 2
      have f2 := Hq6.out.free 2
      have z3 : w9.cell? ⟨gq, 3, none⟩ = some (.slice q.p q.ls.length q.c) := Hq6.out.cell 3
      have f3 := Hq6.out.free 3
      go_upto_region 10 with fail
      clear z2 f2 z3 f3
      have hch := Lib.hid (((Chg.refl gq w9).set 2 (.int .i64 2)).set 3 (.slice pm nm cm))
      have Hq7 : Hid (Blk _ gq #[.int .i64 q.cy, .int .i64 q.cu, .int .i64 2, .slice pm nm cm] 58) := Lib.hid ((Hq6.out.set 2 (.int .i64 2)).set 3 (.slice pm nm cm))
      have HB7 := ksq HB6 hch (by show w.heap.size ≤ gq; have := HGQ.out; omega)
      have HZ7 := kzq HZ6 hch.out.size
      have Hp7 := kcq Hp6 hch (by have := HGQ.out; omega)
      have Hb7 := kcq Hb6 hch (by have := HGQ.out; omega)
      have Hm7 := kcq Hm6 hch (by have := HGQ.out; omega)
      have Hrp7 := kcq Hrp6 hch (by have := HGQ.out; omega)
      have Hrb7 := kcq Hrb6 hch (by have := HGQ.out; omega)
      have Sm7 := Lib.hid (Sm6.out.stay (fun b hb => hch.out.2 b (Sm6.out.lt b hb) (by have h1 := Sm6.out.block_ge b hb; have h9 := HGM.out b hb; omega)))
      clear hch Hp6 Hb6 Hm6 Hrp6 Hrb6 Hq6 Sm6 HB6 HZ6
      generalize ((w9.setCell ⟨gq, 2, none⟩ (.int .i64 2)).setCell ⟨gq, 3, none⟩ (.slice pm nm cm)) = W9 at *
      have hnm := HNM.out
      subst hnm
      have hbd := (Below.refl W9.heap.size W9).drew
      refine wp_region_held_drew (S := fun w' => w'.cell? ⟨w.heap.size, 0, none⟩ = some (.int .i64 me) ∧ w'.cell? ⟨w.heap.size, 1, none⟩ = some (.int .i64 N) ∧ w'.cell? ⟨w.heap.size, 2, none⟩ = some (.slice p n c) ∧ w'.cell? ⟨w.heap.size + 1, 0, none⟩ = some (.int .i64 mb) ∧ w'.cell? ⟨w.heap.size + 1, 1, none⟩ = some (.slice pi ni ci) ∧ w'.cell? ⟨w.heap.size + 1, 2, none⟩ = some (.slice po no co) ∧ w'.cell? ⟨w.heap.size + 1 + 1, 0, none⟩ = some (.int .i64 y.m.k) ∧ w'.cell? ⟨w.heap.size + 1 + 1, 1, none⟩ = some (.int .i64 y.m.s) ∧ w'.cell? ⟨w.heap.size + 1 + 1, 2, none⟩ = some (.int .i64 y.m.n) ∧ w'.cell? ⟨w.heap.size + 1 + 1, 3, none⟩ = some (.int .i64 y.m.b) ∧ w'.cell? ⟨w.heap.size + 1 + 1, 4, none⟩ = some (.int .i64 y.m.c) ∧ w'.cell? ⟨w.heap.size + 1 + 1, 5, none⟩ = some (.int .i64 y.m.r) ∧ w'.cell? ⟨w.heap.size + 1 + 1, 6, none⟩ = some (.int .i64 y.m.y) ∧ w'.cell? ⟨w.heap.size + 1 + 1, 7, none⟩ = some (.int .i64 y.m.a) ∧ w'.cell? ⟨w.heap.size + 1 + 1, 8, none⟩ = some (.bool y.m.t) ∧ w'.cell? ⟨w.heap.size + 1 + 1, 9, none⟩ = some (.slice y.pl y.m.ls.length y.cl) ∧ w'.cell? ⟨w.heap.size + 1 + 1, 10, none⟩ = some (.slice y.pn y.m.ns.length y.cn) ∧ w'.cell? ⟨gq, 0, none⟩ = some (.int .i64 q.cy) ∧ w'.cell? ⟨gq, 1, none⟩ = some (.int .i64 q.cu) ∧ w'.cell? ⟨gq, 2, none⟩ = some (.int .i64 2) ∧ w'.cell? ⟨gq, 3, none⟩ = some (.slice pm ml.length cm)) (by kernel_rfl) ⟨(Hp7.out.below hbd Hp7.out.lt).cell 0, (Hp7.out.below hbd Hp7.out.lt).cell 1, (Hp7.out.below hbd Hp7.out.lt).cell 2, (Hb7.out.below hbd Hb7.out.lt).cell 0, (Hb7.out.below hbd Hb7.out.lt).cell 1, (Hb7.out.below hbd Hb7.out.lt).cell 2, (Hm7.out.below hbd Hm7.out.lt).cell 0, (Hm7.out.below hbd Hm7.out.lt).cell 1, (Hm7.out.below hbd Hm7.out.lt).cell 2, (Hm7.out.below hbd Hm7.out.lt).cell 3, (Hm7.out.below hbd Hm7.out.lt).cell 4, (Hm7.out.below hbd Hm7.out.lt).cell 5, (Hm7.out.below hbd Hm7.out.lt).cell 6, (Hm7.out.below hbd Hm7.out.lt).cell 7, (Hm7.out.below hbd Hm7.out.lt).cell 8, (Hm7.out.below hbd Hm7.out.lt).cell 9, (Hm7.out.below hbd Hm7.out.lt).cell 10, (Hq7.out.below hbd Hq7.out.lt).cell 0, (Hq7.out.below hbd Hq7.out.lt).cell 1, (Hq7.out.below hbd Hq7.out.lt).cell 2, (Hq7.out.below hbd Hq7.out.lt).cell 3⟩ (fun hS0 => ?_)
      generalize W9.drew = WDa at *
      have Hp8 := kbq Hp7 hbd
      have Hb8 := kbq Hb7 hbd
      have Hm8 := kbq Hm7 hbd
      have Hrp8 := kbq Hrp7 hbd
      have Hrb8 := kbq Hrb7 hbd
      have Hq8 := kbq Hq7 hbd
      have Sm8 := Lib.hid (Sm7.out.later hbd)
      have HB8 := ktq HB7 hbd
      have HZ8 := kzq HZ7 hbd.size
      clear Hp7 Hb7 Hm7 Hrp7 Hrb7 Hq7 Sm7 HB7 HZ7
      clear hbd
      refine tkq 0 ?_
      refine tkq 1 ?_
      refine tkq 3 ?_
      refine tkq 4 ?_
      refine tkq 5 ?_
      refine tkq 6 ?_
      refine tkq 7 ?_
      refine tkq 8 ?_
      refine tkq 9 ?_
      refine tkq 10 ?_
      refine rdq 2 (fun K hK => ?_)
      have HG := Lib.hid (pwith_any WDa me N p n c ps (⟨q.cy, q.cu, 2, pm, cm, ml⟩ : PtX) (HV.out.pts.row.kept HB8.out) HV.out.np.1 (by have := HV.out.np; omega) HV.out.pts.srt)
      unfold PtX.v at HG
      go_simp
      go_at_call 50
      refine HG.out.mono ?_
      rintro y9 w3a ⟨p3, n3, c3, rfl, hown, hb⟩
      clear HG
      have HP3 := Lib.hid hown
      have HSN : Hid (w.heap.size ≤ WDa.heap.size) := Lib.hid HB8.out.size
      have HG3 : Hid (∀ g, (Value.slice p3 n3 c3).ownBlock = some g → gq < g) := fun g hg => by have h1 := hown.block_ge g hg; have h2 := Hq8.out.lt; omega
      clear hown
      have Hp9 := kbq Hp8 hb
      have Hb9 := kbq Hb8 hb
      have Hm9 := kbq Hm8 hb
      have Hrp9 := kbq Hrp8 hb
      have Hrb9 := kbq Hrb8 hb
      have Hq9 := kbq Hq8 hb
      have Sm9 := Lib.hid (Sm8.out.later hb)
      have HB9 := ktq HB8 hb
      have HZ9 := kzq HZ8 hb.size
      clear Hp8 Hb8 Hm8 Hrp8 Hrb8 Hq8 Sm8 HB8 HZ8
      clear hb hS0
      try go_wp2_with fail
      refine hK.out _ _ ⟨Hp9.out.cell 0, Hp9.out.cell 1, Hp9.out.cell 2, Hb9.out.cell 0, Hb9.out.cell 1, Hb9.out.cell 2, Hm9.out.cell 0, Hm9.out.cell 1, Hm9.out.cell 2, Hm9.out.cell 3, Hm9.out.cell 4, Hm9.out.cell 5, Hm9.out.cell 6, Hm9.out.cell 7, Hm9.out.cell 8, Hm9.out.cell 9, Hm9.out.cell 10, Hq9.out.cell 0, Hq9.out.cell 1, Hq9.out.cell 2, Hq9.out.cell 3⟩ (fun hS0 => ?_)
      clear hK K
      try simp only [Act.put, List.getElem_toArray, List.getElem_cons_succ, List.getElem_cons_zero, List.setIfInBounds_toArray, List.set_cons_zero, List.set_cons_succ]
      have Sn9 := HP3
      clear HP3
      refine rdq 11 (fun K hK => ?_)
      have HG := Lib.hid (says_any w3a me N p n c (sayX 13 y.m.y true))
      unfold sayX Msg.v at HG
      go_simp
      go_at_call 51
      refine HG.out.mono ?_
      rintro y9 w4a ⟨v5, rfl, hown, hb⟩
      clear HG
      have HS5 := Lib.hid hown
      have HSO : Hid (w.heap.size ≤ w3a.heap.size) := Lib.hid HB9.out.size
      have HG5 : Hid (∀ g, v5.ownBlock = some g → gq < g) := fun g hg => by have h1 := hown.block_ge g hg; have h2 := Hq9.out.lt; omega
      clear hown
      have Hp10 := kbq Hp9 hb
      have Hb10 := kbq Hb9 hb
      have Hm10 := kbq Hm9 hb
      have Hrp10 := kbq Hrp9 hb
      have Hrb10 := kbq Hrb9 hb
      have Hq10 := kbq Hq9 hb
      have Sm10 := Lib.hid (Sm9.out.later hb)
      have Sn10 := Lib.hid (Sn9.out.later hb)
      have HB10 := ktq HB9 hb
      have HZ10 := kzq HZ9 hb.size
      clear Hp9 Hb9 Hm9 Hrp9 Hrb9 Hq9 Sm9 Sn9 HB9 HZ9
      clear hb hS0
      try go_wp2_with fail
      refine hK.out _ _ ⟨Hp10.out.cell 0, Hp10.out.cell 1, Hp10.out.cell 2, Hb10.out.cell 0, Hb10.out.cell 1, Hb10.out.cell 2, Hm10.out.cell 0, Hm10.out.cell 1, Hm10.out.cell 2, Hm10.out.cell 3, Hm10.out.cell 4, Hm10.out.cell 5, Hm10.out.cell 6, Hm10.out.cell 7, Hm10.out.cell 8, Hm10.out.cell 9, Hm10.out.cell 10, Hq10.out.cell 0, Hq10.out.cell 1, Hq10.out.cell 2, Hq10.out.cell 3⟩ (fun hS0 => ?_)
      clear hK K
      try simp only [Act.put, List.getElem_toArray, List.getElem_cons_succ, List.getElem_cons_zero, List.setIfInBounds_toArray, List.set_cons_zero, List.set_cons_succ]
      have So10 := HS5
      clear HS5
      refine rdq 12 (fun K hK => ?_)
      have z0 : w4a.cell? ⟨(w.heap.size + 1 + 1 + 1), 0, none⟩ = some (.int .i64 0) := Hrp10.out.cell 0
      have z1 : w4a.cell? ⟨(w.heap.size + 1 + 1 + 1), 1, none⟩ = some (.int .i64 0) := Hrp10.out.cell 1
      have z2 : w4a.cell? ⟨(w.heap.size + 1 + 1 + 1), 2, none⟩ = some (.slice none 0 0) := Hrp10.out.cell 2
      have f0 := Hrp10.out.free 0
      have f1 := Hrp10.out.free 1
      have f2 := Hrp10.out.free 2
      go_simp
      clear z0 z1 z2 f0 f1 f2
      have hch := Lib.hid ((((Chg.refl (w.heap.size + 1 + 1 + 1) w4a).set 0 (.int .i64 me)).set 1 (.int .i64 N)).set 2 (.slice p3 n3 c3))
      have Hrp11 : Hid (Blk _ (w.heap.size + 1 + 1 + 1) #[.int .i64 me, .int .i64 N, .slice p3 n3 c3] 36) := Lib.hid (((Hrp10.out.set 0 (.int .i64 me)).set 1 (.int .i64 N)).set 2 (.slice p3 n3 c3))
      have HB11 := ksq HB10 hch (by show w.heap.size ≤ (w.heap.size + 1 + 1 + 1); omega)
      have HZ11 := kzq HZ10 hch.out.size
      have Hp11 := kcq Hp10 hch (by have := HGQ.out; omega)
      have Hb11 := kcq Hb10 hch (by have := HGQ.out; omega)
      have Hm11 := kcq Hm10 hch (by have := HGQ.out; omega)
      have Hrb11 := kcq Hrb10 hch (by have := HGQ.out; omega)
      have Hq11 := kcq Hq10 hch (by have := HGQ.out; omega)
      have Sm11 := Lib.hid (Sm10.out.stay (fun b hb => hch.out.2 b (Sm10.out.lt b hb) (by have h1 := Sm10.out.block_ge b hb; have h9 := HGM.out b hb; have h8 := HGQ.out; omega)))
      have Sn11 := Lib.hid (Sn10.out.stay (fun b hb => hch.out.2 b (Sn10.out.lt b hb) (by have h1 := Sn10.out.block_ge b hb; have h9 := HG3.out b hb; have h8 := HGQ.out; omega)))
      have So11 := Lib.hid (So10.out.stay (fun b hb => hch.out.2 b (So10.out.lt b hb) (by have h1 := So10.out.block_ge b hb; have h9 := HG5.out b hb; have h8 := HGQ.out; omega)))
      clear hch hS0 Hp10 Hb10 Hm10 Hrp10 Hrb10 Hq10 Sm10 Sn10 So10 HB10 HZ10
      generalize (((w4a.setCell ⟨w.heap.size + 1 + 1 + 1, 0, none⟩ (.int .i64 me)).setCell ⟨w.heap.size + 1 + 1 + 1, 1, none⟩ (.int .i64 N)).setCell ⟨w.heap.size + 1 + 1 + 1, 2, none⟩ (.slice p3 n3 c3)) = WPa at *
      refine hK.out _ _ ⟨Hp11.out.cell 0, Hp11.out.cell 1, Hp11.out.cell 2, Hb11.out.cell 0, Hb11.out.cell 1, Hb11.out.cell 2, Hm11.out.cell 0, Hm11.out.cell 1, Hm11.out.cell 2, Hm11.out.cell 3, Hm11.out.cell 4, Hm11.out.cell 5, Hm11.out.cell 6, Hm11.out.cell 7, Hm11.out.cell 8, Hm11.out.cell 9, Hm11.out.cell 10, Hq11.out.cell 0, Hq11.out.cell 1, Hq11.out.cell 2, Hq11.out.cell 3⟩ (fun hS0 => ?_)
      clear hK K
      try simp only [Act.put, List.getElem_toArray, List.getElem_cons_succ, List.getElem_cons_zero, List.setIfInBounds_toArray, List.set_cons_zero, List.set_cons_succ]
      refine rdq 13 (fun K hK => ?_)
      have z0 : WPa.cell? ⟨(w.heap.size + 1 + 1 + 1 + 1), 0, none⟩ = some (.int .i64 0) := Hrb11.out.cell 0
      have z1 : WPa.cell? ⟨(w.heap.size + 1 + 1 + 1 + 1), 1, none⟩ = some (.slice none 0 0) := Hrb11.out.cell 1
      have z2 : WPa.cell? ⟨(w.heap.size + 1 + 1 + 1 + 1), 2, none⟩ = some (.slice none 0 0) := Hrb11.out.cell 2
      have f0 := Hrb11.out.free 0
      have f1 := Hrb11.out.free 1
      have f2 := Hrb11.out.free 2
      go_simp
      clear z0 z1 z2 f0 f1 f2
      have hch := Lib.hid ((((Chg.refl (w.heap.size + 1 + 1 + 1 + 1) WPa).set 0 (.int .i64 mb)).set 1 (.slice pi ni ci)).set 2 (.slice po no co))
      have Hrb12 : Hid (Blk _ (w.heap.size + 1 + 1 + 1 + 1) #[.int .i64 mb, .slice pi ni ci, .slice po no co] 28) := Lib.hid (((Hrb11.out.set 0 (.int .i64 mb)).set 1 (.slice pi ni ci)).set 2 (.slice po no co))
      have HB12 := ksq HB11 hch (by show w.heap.size ≤ (w.heap.size + 1 + 1 + 1 + 1); omega)
      have HZ12 := kzq HZ11 hch.out.size
      have Hp12 := kcq Hp11 hch (by have := HGQ.out; omega)
      have Hb12 := kcq Hb11 hch (by have := HGQ.out; omega)
      have Hm12 := kcq Hm11 hch (by have := HGQ.out; omega)
      have Hrp12 := kcq Hrp11 hch (by have := HGQ.out; omega)
      have Hq12 := kcq Hq11 hch (by have := HGQ.out; omega)
      have Sm12 := Lib.hid (Sm11.out.stay (fun b hb => hch.out.2 b (Sm11.out.lt b hb) (by have h1 := Sm11.out.block_ge b hb; have h9 := HGM.out b hb; have h8 := HGQ.out; omega)))
      have Sn12 := Lib.hid (Sn11.out.stay (fun b hb => hch.out.2 b (Sn11.out.lt b hb) (by have h1 := Sn11.out.block_ge b hb; have h9 := HG3.out b hb; have h8 := HGQ.out; omega)))
      have So12 := Lib.hid (So11.out.stay (fun b hb => hch.out.2 b (So11.out.lt b hb) (by have h1 := So11.out.block_ge b hb; have h9 := HG5.out b hb; have h8 := HGQ.out; omega)))
      clear hch hS0 Hp11 Hb11 Hm11 Hrp11 Hrb11 Hq11 Sm11 Sn11 So11 HB11 HZ11
      generalize (((WPa.setCell ⟨w.heap.size + 1 + 1 + 1 + 1, 0, none⟩ (.int .i64 mb)).setCell ⟨w.heap.size + 1 + 1 + 1 + 1, 1, none⟩ (.slice pi ni ci)).setCell ⟨w.heap.size + 1 + 1 + 1 + 1, 2, none⟩ (.slice po no co)) = WQa at *
      refine hK.out _ _ ⟨Hp12.out.cell 0, Hp12.out.cell 1, Hp12.out.cell 2, Hb12.out.cell 0, Hb12.out.cell 1, Hb12.out.cell 2, Hm12.out.cell 0, Hm12.out.cell 1, Hm12.out.cell 2, Hm12.out.cell 3, Hm12.out.cell 4, Hm12.out.cell 5, Hm12.out.cell 6, Hm12.out.cell 7, Hm12.out.cell 8, Hm12.out.cell 9, Hm12.out.cell 10, Hq12.out.cell 0, Hq12.out.cell 1, Hq12.out.cell 2, Hq12.out.cell 3⟩ (fun hS0 => ?_)
      clear hK K
      try simp only [Act.put, List.getElem_toArray, List.getElem_cons_succ, List.getElem_cons_zero, List.setIfInBounds_toArray, List.set_cons_zero, List.set_cons_succ]
      refine tkq 14 ?_
      refine tkq 15 ?_
      refine wpAnyH_done (by kernel_rfl) ?_ _
      clear hS0
      obtain ⟨p5, c5, hv5⟩ := So12.out.form
      subst hv5
      go_wp2_with fail
      have hfp := Hrp12.out
      have hfb := Hrb12.out
      refine bodyPost_ret (v := .tuple #[.agg #[.int .i64 me, .int .i64 N, .slice p3 n3 c3], .agg #[.int .i64 mb, .slice pi ni ci, .slice po no co], .slice p5 [(⟨N, sayX 13 y.m.y true⟩ : SdX)].length c5, .int .i64 0]) (by simp [results, Try.results31, go_sem, hfp.cell 0, hfp.cell 1, hfp.cell 2, hfb.cell 0, hfb.cell 1, hfb.cell 2]) rfl ⟨HB12.out, p3, n3, c3, pi, ni, ci, _, insC ps (⟨q.cy, q.cu, 2, pm, cm, ml⟩ : PtX), xs, [⟨N, sayX 13 y.m.y true⟩], 0, rfl, insC_pts HV.out.pts HB12.out Sn12.out ⟨Sm12.out.row, Sm12.out.at_P (fun b hb => .inr (Nat.le_trans HSZ.out hb))⟩ (fun _ h => .inl h) (fun b hb => .inr (Nat.le_trans HSN.out hb)), (HV.out.same HB12.out).2.1, (HV.out.same HB12.out).2.2, So12.out.less HSO.out, saidR_say _ _ _ _ _ _, ?_⟩
      refine ⟨rfl, fun h => absurd (by rw [HQ.out]) h, fun _ h => absurd (by rw [HQ.out]; exact HST.out) h, fun _ _ => ⟨rfl, ?_, ?_, ?_⟩⟩
      ·rw [HPB.out]
      ·intro h; rw [HPB.out] at h; cases h
      ·intro _; exact ⟨pm, cm, by rw [HQ.out, HML.out]⟩
     | false =>
      have HPB : Hid (prepB me N xs y.m = false) := by
       show _ = _
       unfold prepB
       rw [decide_eq_true HNE.out, decide_eq_true HRE.out, HML.out, HDD.out]; rfl
      go_upto_region 10 with fail
      have hbd := (Below.refl w9.heap.size w9).drew
      refine wp_region_held_drew (S := fun w' => w'.cell? ⟨w.heap.size, 0, none⟩ = some (.int .i64 me) ∧ w'.cell? ⟨w.heap.size, 1, none⟩ = some (.int .i64 N) ∧ w'.cell? ⟨w.heap.size, 2, none⟩ = some (.slice p n c) ∧ w'.cell? ⟨w.heap.size + 1, 0, none⟩ = some (.int .i64 mb) ∧ w'.cell? ⟨w.heap.size + 1, 1, none⟩ = some (.slice pi ni ci) ∧ w'.cell? ⟨w.heap.size + 1, 2, none⟩ = some (.slice po no co) ∧ w'.cell? ⟨w.heap.size + 1 + 1, 0, none⟩ = some (.int .i64 y.m.k) ∧ w'.cell? ⟨w.heap.size + 1 + 1, 1, none⟩ = some (.int .i64 y.m.s) ∧ w'.cell? ⟨w.heap.size + 1 + 1, 2, none⟩ = some (.int .i64 y.m.n) ∧ w'.cell? ⟨w.heap.size + 1 + 1, 3, none⟩ = some (.int .i64 y.m.b) ∧ w'.cell? ⟨w.heap.size + 1 + 1, 4, none⟩ = some (.int .i64 y.m.c) ∧ w'.cell? ⟨w.heap.size + 1 + 1, 5, none⟩ = some (.int .i64 y.m.r) ∧ w'.cell? ⟨w.heap.size + 1 + 1, 6, none⟩ = some (.int .i64 y.m.y) ∧ w'.cell? ⟨w.heap.size + 1 + 1, 7, none⟩ = some (.int .i64 y.m.a) ∧ w'.cell? ⟨w.heap.size + 1 + 1, 8, none⟩ = some (.bool y.m.t) ∧ w'.cell? ⟨w.heap.size + 1 + 1, 9, none⟩ = some (.slice y.pl y.m.ls.length y.cl) ∧ w'.cell? ⟨w.heap.size + 1 + 1, 10, none⟩ = some (.slice y.pn y.m.ns.length y.cn) ∧ w'.cell? ⟨gq, 0, none⟩ = some (.int .i64 q.cy) ∧ w'.cell? ⟨gq, 1, none⟩ = some (.int .i64 q.cu) ∧ w'.cell? ⟨gq, 2, none⟩ = some (.int .i64 3) ∧ w'.cell? ⟨gq, 3, none⟩ = some (.slice q.p q.ls.length q.c)) (by kernel_rfl) ⟨(Hp6.out.below hbd Hp6.out.lt).cell 0, (Hp6.out.below hbd Hp6.out.lt).cell 1, (Hp6.out.below hbd Hp6.out.lt).cell 2, (Hb6.out.below hbd Hb6.out.lt).cell 0, (Hb6.out.below hbd Hb6.out.lt).cell 1, (Hb6.out.below hbd Hb6.out.lt).cell 2, (Hm6.out.below hbd Hm6.out.lt).cell 0, (Hm6.out.below hbd Hm6.out.lt).cell 1, (Hm6.out.below hbd Hm6.out.lt).cell 2, (Hm6.out.below hbd Hm6.out.lt).cell 3, (Hm6.out.below hbd Hm6.out.lt).cell 4, (Hm6.out.below hbd Hm6.out.lt).cell 5, (Hm6.out.below hbd Hm6.out.lt).cell 6, (Hm6.out.below hbd Hm6.out.lt).cell 7, (Hm6.out.below hbd Hm6.out.lt).cell 8, (Hm6.out.below hbd Hm6.out.lt).cell 9, (Hm6.out.below hbd Hm6.out.lt).cell 10, (Hq6.out.below hbd Hq6.out.lt).cell 0, (Hq6.out.below hbd Hq6.out.lt).cell 1, (Hq6.out.below hbd Hq6.out.lt).cell 2, (Hq6.out.below hbd Hq6.out.lt).cell 3⟩ (fun hS0 => ?_)
      generalize w9.drew = WDb at *
      have Hp7 := kbq Hp6 hbd
      have Hb7 := kbq Hb6 hbd
      have Hm7 := kbq Hm6 hbd
      have Hrp7 := kbq Hrp6 hbd
      have Hrb7 := kbq Hrb6 hbd
      have Hq7 := kbq Hq6 hbd
      have Sm7 := Lib.hid (Sm6.out.later hbd)
      have HB7 := ktq HB6 hbd
      have HZ7 := kzq HZ6 hbd.size
      clear Hp6 Hb6 Hm6 Hrp6 Hrb6 Hq6 Sm6 HB6 HZ6
      clear hbd
      refine tkq 0 ?_
      refine tkq 1 ?_
      refine tkq 3 ?_
      refine tkq 4 ?_
      refine tkq 5 ?_
      refine tkq 6 ?_
      refine tkq 7 ?_
      refine tkq 8 ?_
      refine tkq 9 ?_
      refine tkq 10 ?_
      refine rdq 2 (fun K hK => ?_)
      have HG := Lib.hid (pwith_any WDb me N p n c ps (⟨q.cy, q.cu, 3, q.p, q.c, q.ls⟩ : PtX) (HV.out.pts.row.kept HB7.out) HV.out.np.1 (by have := HV.out.np; omega) HV.out.pts.srt)
      unfold PtX.v at HG
      go_simp
      go_at_call 50
      refine HG.out.mono ?_
      rintro y9 w3b ⟨p3, n3, c3, rfl, hown, hb⟩
      clear HG
      have HP3 := Lib.hid hown
      have HSN : Hid (w.heap.size ≤ WDb.heap.size) := Lib.hid HB7.out.size
      have HG3 : Hid (∀ g, (Value.slice p3 n3 c3).ownBlock = some g → gq < g) := fun g hg => by have h1 := hown.block_ge g hg; have h2 := Hq7.out.lt; omega
      clear hown
      have Hp8 := kbq Hp7 hb
      have Hb8 := kbq Hb7 hb
      have Hm8 := kbq Hm7 hb
      have Hrp8 := kbq Hrp7 hb
      have Hrb8 := kbq Hrb7 hb
      have Hq8 := kbq Hq7 hb
      have Sm8 := Lib.hid (Sm7.out.later hb)
      have HB8 := ktq HB7 hb
      have HZ8 := kzq HZ7 hb.size
      clear Hp7 Hb7 Hm7 Hrp7 Hrb7 Hq7 Sm7 HB7 HZ7
      clear hb hS0
      try go_wp2_with fail
      refine hK.out _ _ ⟨Hp8.out.cell 0, Hp8.out.cell 1, Hp8.out.cell 2, Hb8.out.cell 0, Hb8.out.cell 1, Hb8.out.cell 2, Hm8.out.cell 0, Hm8.out.cell 1, Hm8.out.cell 2, Hm8.out.cell 3, Hm8.out.cell 4, Hm8.out.cell 5, Hm8.out.cell 6, Hm8.out.cell 7, Hm8.out.cell 8, Hm8.out.cell 9, Hm8.out.cell 10, Hq8.out.cell 0, Hq8.out.cell 1, Hq8.out.cell 2, Hq8.out.cell 3⟩ (fun hS0 => ?_)
      clear hK K
      try simp only [Act.put, List.getElem_toArray, List.getElem_cons_succ, List.getElem_cons_zero, List.setIfInBounds_toArray, List.set_cons_zero, List.set_cons_succ]
      have Sn8 := HP3
      clear HP3
      refine rdq 11 (fun K hK => ?_)
      have HG := Lib.hid (says_any w3b me N p n c (sayX 13 y.m.y false))
      unfold sayX Msg.v at HG
      go_simp
      go_at_call 51
      refine HG.out.mono ?_
      rintro y9 w4b ⟨v5, rfl, hown, hb⟩
      clear HG
      have HS5 := Lib.hid hown
      have HSO : Hid (w.heap.size ≤ w3b.heap.size) := Lib.hid HB8.out.size
      have HG5 : Hid (∀ g, v5.ownBlock = some g → gq < g) := fun g hg => by have h1 := hown.block_ge g hg; have h2 := Hq8.out.lt; omega
      clear hown
      have Hp9 := kbq Hp8 hb
      have Hb9 := kbq Hb8 hb
      have Hm9 := kbq Hm8 hb
      have Hrp9 := kbq Hrp8 hb
      have Hrb9 := kbq Hrb8 hb
      have Hq9 := kbq Hq8 hb
      have Sm9 := Lib.hid (Sm8.out.later hb)
      have Sn9 := Lib.hid (Sn8.out.later hb)
      have HB9 := ktq HB8 hb
      have HZ9 := kzq HZ8 hb.size
      clear Hp8 Hb8 Hm8 Hrp8 Hrb8 Hq8 Sm8 Sn8 HB8 HZ8
      clear hb hS0
      try go_wp2_with fail
      refine hK.out _ _ ⟨Hp9.out.cell 0, Hp9.out.cell 1, Hp9.out.cell 2, Hb9.out.cell 0, Hb9.out.cell 1, Hb9.out.cell 2, Hm9.out.cell 0, Hm9.out.cell 1, Hm9.out.cell 2, Hm9.out.cell 3, Hm9.out.cell 4, Hm9.out.cell 5, Hm9.out.cell 6, Hm9.out.cell 7, Hm9.out.cell 8, Hm9.out.cell 9, Hm9.out.cell 10, Hq9.out.cell 0, Hq9.out.cell 1, Hq9.out.cell 2, Hq9.out.cell 3⟩ (fun hS0 => ?_)
      clear hK K
      try simp only [Act.put, List.getElem_toArray, List.getElem_cons_succ, List.getElem_cons_zero, List.setIfInBounds_toArray, List.set_cons_zero, List.set_cons_succ]
      have So9 := HS5
      clear HS5
      refine rdq 12 (fun K hK => ?_)
      have z0 : w4b.cell? ⟨(w.heap.size + 1 + 1 + 1), 0, none⟩ = some (.int .i64 0) := Hrp9.out.cell 0
      have z1 : w4b.cell? ⟨(w.heap.size + 1 + 1 + 1), 1, none⟩ = some (.int .i64 0) := Hrp9.out.cell 1
      have z2 : w4b.cell? ⟨(w.heap.size + 1 + 1 + 1), 2, none⟩ = some (.slice none 0 0) := Hrp9.out.cell 2
      have f0 := Hrp9.out.free 0
      have f1 := Hrp9.out.free 1
      have f2 := Hrp9.out.free 2
      go_simp
      clear z0 z1 z2 f0 f1 f2
      have hch := Lib.hid ((((Chg.refl (w.heap.size + 1 + 1 + 1) w4b).set 0 (.int .i64 me)).set 1 (.int .i64 N)).set 2 (.slice p3 n3 c3))
      have Hrp10 : Hid (Blk _ (w.heap.size + 1 + 1 + 1) #[.int .i64 me, .int .i64 N, .slice p3 n3 c3] 36) := Lib.hid (((Hrp9.out.set 0 (.int .i64 me)).set 1 (.int .i64 N)).set 2 (.slice p3 n3 c3))
      have HB10 := ksq HB9 hch (by show w.heap.size ≤ (w.heap.size + 1 + 1 + 1); omega)
      have HZ10 := kzq HZ9 hch.out.size
      have Hp10 := kcq Hp9 hch (by have := HGQ.out; omega)
      have Hb10 := kcq Hb9 hch (by have := HGQ.out; omega)
      have Hm10 := kcq Hm9 hch (by have := HGQ.out; omega)
      have Hrb10 := kcq Hrb9 hch (by have := HGQ.out; omega)
      have Hq10 := kcq Hq9 hch (by have := HGQ.out; omega)
      have Sm10 := Lib.hid (Sm9.out.stay (fun b hb => hch.out.2 b (Sm9.out.lt b hb) (by have h1 := Sm9.out.block_ge b hb; have h9 := HGM.out b hb; have h8 := HGQ.out; omega)))
      have Sn10 := Lib.hid (Sn9.out.stay (fun b hb => hch.out.2 b (Sn9.out.lt b hb) (by have h1 := Sn9.out.block_ge b hb; have h9 := HG3.out b hb; have h8 := HGQ.out; omega)))
      have So10 := Lib.hid (So9.out.stay (fun b hb => hch.out.2 b (So9.out.lt b hb) (by have h1 := So9.out.block_ge b hb; have h9 := HG5.out b hb; have h8 := HGQ.out; omega)))
      clear hch hS0 Hp9 Hb9 Hm9 Hrp9 Hrb9 Hq9 Sm9 Sn9 So9 HB9 HZ9
      generalize (((w4b.setCell ⟨w.heap.size + 1 + 1 + 1, 0, none⟩ (.int .i64 me)).setCell ⟨w.heap.size + 1 + 1 + 1, 1, none⟩ (.int .i64 N)).setCell ⟨w.heap.size + 1 + 1 + 1, 2, none⟩ (.slice p3 n3 c3)) = WPb at *
      refine hK.out _ _ ⟨Hp10.out.cell 0, Hp10.out.cell 1, Hp10.out.cell 2, Hb10.out.cell 0, Hb10.out.cell 1, Hb10.out.cell 2, Hm10.out.cell 0, Hm10.out.cell 1, Hm10.out.cell 2, Hm10.out.cell 3, Hm10.out.cell 4, Hm10.out.cell 5, Hm10.out.cell 6, Hm10.out.cell 7, Hm10.out.cell 8, Hm10.out.cell 9, Hm10.out.cell 10, Hq10.out.cell 0, Hq10.out.cell 1, Hq10.out.cell 2, Hq10.out.cell 3⟩ (fun hS0 => ?_)
      clear hK K
      try simp only [Act.put, List.getElem_toArray, List.getElem_cons_succ, List.getElem_cons_zero, List.setIfInBounds_toArray, List.set_cons_zero, List.set_cons_succ]
      refine rdq 13 (fun K hK => ?_)
      have z0 : WPb.cell? ⟨(w.heap.size + 1 + 1 + 1 + 1), 0, none⟩ = some (.int .i64 0) := Hrb10.out.cell 0
      have z1 : WPb.cell? ⟨(w.heap.size + 1 + 1 + 1 + 1), 1, none⟩ = some (.slice none 0 0) := Hrb10.out.cell 1
      have z2 : WPb.cell? ⟨(w.heap.size + 1 + 1 + 1 + 1), 2, none⟩ = some (.slice none 0 0) := Hrb10.out.cell 2
      have f0 := Hrb10.out.free 0
      have f1 := Hrb10.out.free 1
      have f2 := Hrb10.out.free 2
      go_simp
      clear z0 z1 z2 f0 f1 f2
      have hch := Lib.hid ((((Chg.refl (w.heap.size + 1 + 1 + 1 + 1) WPb).set 0 (.int .i64 mb)).set 1 (.slice pi ni ci)).set 2 (.slice po no co))
      have Hrb11 : Hid (Blk _ (w.heap.size + 1 + 1 + 1 + 1) #[.int .i64 mb, .slice pi ni ci, .slice po no co] 28) := Lib.hid (((Hrb10.out.set 0 (.int .i64 mb)).set 1 (.slice pi ni ci)).set 2 (.slice po no co))
      have HB11 := ksq HB10 hch (by show w.heap.size ≤ (w.heap.size + 1 + 1 + 1 + 1); omega)
      have HZ11 := kzq HZ10 hch.out.size
      have Hp11 := kcq Hp10 hch (by have := HGQ.out; omega)
      have Hb11 := kcq Hb10 hch (by have := HGQ.out; omega)
      have Hm11 := kcq Hm10 hch (by have := HGQ.out; omega)
      have Hrp11 := kcq Hrp10 hch (by have := HGQ.out; omega)
      have Hq11 := kcq Hq10 hch (by have := HGQ.out; omega)
      have Sm11 := Lib.hid (Sm10.out.stay (fun b hb => hch.out.2 b (Sm10.out.lt b hb) (by have h1 := Sm10.out.block_ge b hb; have h9 := HGM.out b hb; have h8 := HGQ.out; omega)))
      have Sn11 := Lib.hid (Sn10.out.stay (fun b hb => hch.out.2 b (Sn10.out.lt b hb) (by have h1 := Sn10.out.block_ge b hb; have h9 := HG3.out b hb; have h8 := HGQ.out; omega)))
      have So11 := Lib.hid (So10.out.stay (fun b hb => hch.out.2 b (So10.out.lt b hb) (by have h1 := So10.out.block_ge b hb; have h9 := HG5.out b hb; have h8 := HGQ.out; omega)))
      clear hch hS0 Hp10 Hb10 Hm10 Hrp10 Hrb10 Hq10 Sm10 Sn10 So10 HB10 HZ10
      generalize (((WPb.setCell ⟨w.heap.size + 1 + 1 + 1 + 1, 0, none⟩ (.int .i64 mb)).setCell ⟨w.heap.size + 1 + 1 + 1 + 1, 1, none⟩ (.slice pi ni ci)).setCell ⟨w.heap.size + 1 + 1 + 1 + 1, 2, none⟩ (.slice po no co)) = WQb at *
      refine hK.out _ _ ⟨Hp11.out.cell 0, Hp11.out.cell 1, Hp11.out.cell 2, Hb11.out.cell 0, Hb11.out.cell 1, Hb11.out.cell 2, Hm11.out.cell 0, Hm11.out.cell 1, Hm11.out.cell 2, Hm11.out.cell 3, Hm11.out.cell 4, Hm11.out.cell 5, Hm11.out.cell 6, Hm11.out.cell 7, Hm11.out.cell 8, Hm11.out.cell 9, Hm11.out.cell 10, Hq11.out.cell 0, Hq11.out.cell 1, Hq11.out.cell 2, Hq11.out.cell 3⟩ (fun hS0 => ?_)
      clear hK K
      try simp only [Act.put, List.getElem_toArray, List.getElem_cons_succ, List.getElem_cons_zero, List.setIfInBounds_toArray, List.set_cons_zero, List.set_cons_succ]
      refine tkq 14 ?_
      refine tkq 15 ?_
      refine wpAnyH_done (by kernel_rfl) ?_ _
      clear hS0
      obtain ⟨p5, c5, hv5⟩ := So11.out.form
      subst hv5
      go_wp2_with fail
      have hfp := Hrp11.out
      have hfb := Hrb11.out
      refine bodyPost_ret (v := .tuple #[.agg #[.int .i64 me, .int .i64 N, .slice p3 n3 c3], .agg #[.int .i64 mb, .slice pi ni ci, .slice po no co], .slice p5 [(⟨N, sayX 13 y.m.y false⟩ : SdX)].length c5, .int .i64 0]) (by simp [results, Try.results31, go_sem, hfp.cell 0, hfp.cell 1, hfp.cell 2, hfb.cell 0, hfb.cell 1, hfb.cell 2]) rfl ⟨HB11.out, p3, n3, c3, pi, ni, ci, _, insC ps (⟨q.cy, q.cu, 3, q.p, q.c, q.ls⟩ : PtX), xs, [⟨N, sayX 13 y.m.y false⟩], 0, rfl, insC_pts HV.out.pts HB11.out Sn11.out ⟨((HV.out.pts.ls q (openP_mem HQ.out)).1.kept HB11.out), (HV.out.pts.ls q (openP_mem HQ.out)).2.imp (fun _ h => .inl h)⟩ (fun _ h => .inl h) (fun b hb => .inr (Nat.le_trans HSN.out hb)), (HV.out.same HB11.out).2.1, (HV.out.same HB11.out).2.2, So11.out.less HSO.out, saidR_say _ _ _ _ _ _, ?_⟩
      refine ⟨rfl, fun h => absurd (by rw [HQ.out]) h, fun _ h => absurd (by rw [HQ.out]; exact HST.out) h, fun _ _ => ⟨rfl, ?_, ?_, ?_⟩⟩
      ·rw [HPB.out]
      ·intro _; rw [HQ.out]
      ·intro h; rw [HPB.out] at h; cases h
    ·have hrb : (rE == 0) = false := by simpa using hr0
     have HPB : Hid (prepB me N xs y.m = false) := by
      show _ = _
      unfold prepB
      rw [HRE.out, decide_eq_false hr0]; simp
     clear hr0
     go_upto_region 10 with fail
     clear hrb
     have hbd := (Below.refl w8.heap.size w8).drew
     refine wp_region_held_drew (S := fun w' => w'.cell? ⟨w.heap.size, 0, none⟩ = some (.int .i64 me) ∧ w'.cell? ⟨w.heap.size, 1, none⟩ = some (.int .i64 N) ∧ w'.cell? ⟨w.heap.size, 2, none⟩ = some (.slice p n c) ∧ w'.cell? ⟨w.heap.size + 1, 0, none⟩ = some (.int .i64 mb) ∧ w'.cell? ⟨w.heap.size + 1, 1, none⟩ = some (.slice pi ni ci) ∧ w'.cell? ⟨w.heap.size + 1, 2, none⟩ = some (.slice po no co) ∧ w'.cell? ⟨w.heap.size + 1 + 1, 0, none⟩ = some (.int .i64 y.m.k) ∧ w'.cell? ⟨w.heap.size + 1 + 1, 1, none⟩ = some (.int .i64 y.m.s) ∧ w'.cell? ⟨w.heap.size + 1 + 1, 2, none⟩ = some (.int .i64 y.m.n) ∧ w'.cell? ⟨w.heap.size + 1 + 1, 3, none⟩ = some (.int .i64 y.m.b) ∧ w'.cell? ⟨w.heap.size + 1 + 1, 4, none⟩ = some (.int .i64 y.m.c) ∧ w'.cell? ⟨w.heap.size + 1 + 1, 5, none⟩ = some (.int .i64 y.m.r) ∧ w'.cell? ⟨w.heap.size + 1 + 1, 6, none⟩ = some (.int .i64 y.m.y) ∧ w'.cell? ⟨w.heap.size + 1 + 1, 7, none⟩ = some (.int .i64 y.m.a) ∧ w'.cell? ⟨w.heap.size + 1 + 1, 8, none⟩ = some (.bool y.m.t) ∧ w'.cell? ⟨w.heap.size + 1 + 1, 9, none⟩ = some (.slice y.pl y.m.ls.length y.cl) ∧ w'.cell? ⟨w.heap.size + 1 + 1, 10, none⟩ = some (.slice y.pn y.m.ns.length y.cn) ∧ w'.cell? ⟨gq, 0, none⟩ = some (.int .i64 q.cy) ∧ w'.cell? ⟨gq, 1, none⟩ = some (.int .i64 q.cu) ∧ w'.cell? ⟨gq, 2, none⟩ = some (.int .i64 3) ∧ w'.cell? ⟨gq, 3, none⟩ = some (.slice q.p q.ls.length q.c)) (by kernel_rfl) ⟨(Hp5.out.below hbd Hp5.out.lt).cell 0, (Hp5.out.below hbd Hp5.out.lt).cell 1, (Hp5.out.below hbd Hp5.out.lt).cell 2, (Hb5.out.below hbd Hb5.out.lt).cell 0, (Hb5.out.below hbd Hb5.out.lt).cell 1, (Hb5.out.below hbd Hb5.out.lt).cell 2, (Hm5.out.below hbd Hm5.out.lt).cell 0, (Hm5.out.below hbd Hm5.out.lt).cell 1, (Hm5.out.below hbd Hm5.out.lt).cell 2, (Hm5.out.below hbd Hm5.out.lt).cell 3, (Hm5.out.below hbd Hm5.out.lt).cell 4, (Hm5.out.below hbd Hm5.out.lt).cell 5, (Hm5.out.below hbd Hm5.out.lt).cell 6, (Hm5.out.below hbd Hm5.out.lt).cell 7, (Hm5.out.below hbd Hm5.out.lt).cell 8, (Hm5.out.below hbd Hm5.out.lt).cell 9, (Hm5.out.below hbd Hm5.out.lt).cell 10, (Hq5.out.below hbd Hq5.out.lt).cell 0, (Hq5.out.below hbd Hq5.out.lt).cell 1, (Hq5.out.below hbd Hq5.out.lt).cell 2, (Hq5.out.below hbd Hq5.out.lt).cell 3⟩ (fun hS0 => ?_)
     generalize w8.drew = WDc at *
     have Hp6 := kbq Hp5 hbd
     have Hb6 := kbq Hb5 hbd
     have Hm6 := kbq Hm5 hbd
     have Hrp6 := kbq Hrp5 hbd
     have Hrb6 := kbq Hrb5 hbd
     have Hq6 := kbq Hq5 hbd
     have Sm6 := Lib.hid (Sm5.out.later hbd)
     have HB6 := ktq HB5 hbd
     have HZ6 := kzq HZ5 hbd.size
     clear Hp5 Hb5 Hm5 Hrp5 Hrb5 Hq5 Sm5 HB5 HZ5
     clear hbd
     refine tkq 0 ?_
     refine tkq 1 ?_
     refine tkq 3 ?_
     refine tkq 4 ?_
     refine tkq 5 ?_
     refine tkq 6 ?_
     refine tkq 7 ?_
     refine tkq 8 ?_
     refine tkq 9 ?_
     refine tkq 10 ?_
     refine rdq 2 (fun K hK => ?_)
     have HG := Lib.hid (pwith_any WDc me N p n c ps (⟨q.cy, q.cu, 3, q.p, q.c, q.ls⟩ : PtX) (HV.out.pts.row.kept HB6.out) HV.out.np.1 (by have := HV.out.np; omega) HV.out.pts.srt)
     unfold PtX.v at HG
     go_simp
     go_at_call 50
     refine HG.out.mono ?_
     rintro y9 w3c ⟨p3, n3, c3, rfl, hown, hb⟩
     clear HG
     have HP3 := Lib.hid hown
     have HSN : Hid (w.heap.size ≤ WDc.heap.size) := Lib.hid HB6.out.size
     have HG3 : Hid (∀ g, (Value.slice p3 n3 c3).ownBlock = some g → gq < g) := fun g hg => by have h1 := hown.block_ge g hg; have h2 := Hq6.out.lt; omega
     clear hown
     have Hp7 := kbq Hp6 hb
     have Hb7 := kbq Hb6 hb
     have Hm7 := kbq Hm6 hb
     have Hrp7 := kbq Hrp6 hb
     have Hrb7 := kbq Hrb6 hb
     have Hq7 := kbq Hq6 hb
     have Sm7 := Lib.hid (Sm6.out.later hb)
     have HB7 := ktq HB6 hb
     have HZ7 := kzq HZ6 hb.size
     clear Hp6 Hb6 Hm6 Hrp6 Hrb6 Hq6 Sm6 HB6 HZ6
     clear hb hS0
     try go_wp2_with fail
     refine hK.out _ _ ⟨Hp7.out.cell 0, Hp7.out.cell 1, Hp7.out.cell 2, Hb7.out.cell 0, Hb7.out.cell 1, Hb7.out.cell 2, Hm7.out.cell 0, Hm7.out.cell 1, Hm7.out.cell 2, Hm7.out.cell 3, Hm7.out.cell 4, Hm7.out.cell 5, Hm7.out.cell 6, Hm7.out.cell 7, Hm7.out.cell 8, Hm7.out.cell 9, Hm7.out.cell 10, Hq7.out.cell 0, Hq7.out.cell 1, Hq7.out.cell 2, Hq7.out.cell 3⟩ (fun hS0 => ?_)
     clear hK K
     try simp only [Act.put, List.getElem_toArray, List.getElem_cons_succ, List.getElem_cons_zero, List.setIfInBounds_toArray, List.set_cons_zero, List.set_cons_succ]
     have Sn7 := HP3
     clear HP3
     refine rdq 11 (fun K hK => ?_)
     have HG := Lib.hid (says_any w3c me N p n c (sayX 13 y.m.y false))
     unfold sayX Msg.v at HG
     go_simp
     go_at_call 51
     refine HG.out.mono ?_
     rintro y9 w4c ⟨v5, rfl, hown, hb⟩
     clear HG
     have HS5 := Lib.hid hown
     have HSO : Hid (w.heap.size ≤ w3c.heap.size) := Lib.hid HB7.out.size
     have HG5 : Hid (∀ g, v5.ownBlock = some g → gq < g) := fun g hg => by have h1 := hown.block_ge g hg; have h2 := Hq7.out.lt; omega
     clear hown
     have Hp8 := kbq Hp7 hb
     have Hb8 := kbq Hb7 hb
     have Hm8 := kbq Hm7 hb
     have Hrp8 := kbq Hrp7 hb
     have Hrb8 := kbq Hrb7 hb
     have Hq8 := kbq Hq7 hb
     have Sm8 := Lib.hid (Sm7.out.later hb)
     have Sn8 := Lib.hid (Sn7.out.later hb)
     have HB8 := ktq HB7 hb
     have HZ8 := kzq HZ7 hb.size
     clear Hp7 Hb7 Hm7 Hrp7 Hrb7 Hq7 Sm7 Sn7 HB7 HZ7
     clear hb hS0
     try go_wp2_with fail
     refine hK.out _ _ ⟨Hp8.out.cell 0, Hp8.out.cell 1, Hp8.out.cell 2, Hb8.out.cell 0, Hb8.out.cell 1, Hb8.out.cell 2, Hm8.out.cell 0, Hm8.out.cell 1, Hm8.out.cell 2, Hm8.out.cell 3, Hm8.out.cell 4, Hm8.out.cell 5, Hm8.out.cell 6, Hm8.out.cell 7, Hm8.out.cell 8, Hm8.out.cell 9, Hm8.out.cell 10, Hq8.out.cell 0, Hq8.out.cell 1, Hq8.out.cell 2, Hq8.out.cell 3⟩ (fun hS0 => ?_)
     clear hK K
     try simp only [Act.put, List.getElem_toArray, List.getElem_cons_succ, List.getElem_cons_zero, List.setIfInBounds_toArray, List.set_cons_zero, List.set_cons_succ]
     have So8 := HS5
     clear HS5
     refine rdq 12 (fun K hK => ?_)
     have z0 : w4c.cell? ⟨(w.heap.size + 1 + 1 + 1), 0, none⟩ = some (.int .i64 0) := Hrp8.out.cell 0
     have z1 : w4c.cell? ⟨(w.heap.size + 1 + 1 + 1), 1, none⟩ = some (.int .i64 0) := Hrp8.out.cell 1
     have z2 : w4c.cell? ⟨(w.heap.size + 1 + 1 + 1), 2, none⟩ = some (.slice none 0 0) := Hrp8.out.cell 2
     have f0 := Hrp8.out.free 0
     have f1 := Hrp8.out.free 1
     have f2 := Hrp8.out.free 2
     go_simp
     clear z0 z1 z2 f0 f1 f2
     have hch := Lib.hid ((((Chg.refl (w.heap.size + 1 + 1 + 1) w4c).set 0 (.int .i64 me)).set 1 (.int .i64 N)).set 2 (.slice p3 n3 c3))
     have Hrp9 : Hid (Blk _ (w.heap.size + 1 + 1 + 1) #[.int .i64 me, .int .i64 N, .slice p3 n3 c3] 36) := Lib.hid (((Hrp8.out.set 0 (.int .i64 me)).set 1 (.int .i64 N)).set 2 (.slice p3 n3 c3))
     have HB9 := ksq HB8 hch (by show w.heap.size ≤ (w.heap.size + 1 + 1 + 1); omega)
     have HZ9 := kzq HZ8 hch.out.size
     have Hp9 := kcq Hp8 hch (by have := HGQ.out; omega)
     have Hb9 := kcq Hb8 hch (by have := HGQ.out; omega)
     have Hm9 := kcq Hm8 hch (by have := HGQ.out; omega)
     have Hrb9 := kcq Hrb8 hch (by have := HGQ.out; omega)
     have Hq9 := kcq Hq8 hch (by have := HGQ.out; omega)
     have Sm9 := Lib.hid (Sm8.out.stay (fun b hb => hch.out.2 b (Sm8.out.lt b hb) (by have h1 := Sm8.out.block_ge b hb; have h9 := HGM.out b hb; have h8 := HGQ.out; omega)))
     have Sn9 := Lib.hid (Sn8.out.stay (fun b hb => hch.out.2 b (Sn8.out.lt b hb) (by have h1 := Sn8.out.block_ge b hb; have h9 := HG3.out b hb; have h8 := HGQ.out; omega)))
     have So9 := Lib.hid (So8.out.stay (fun b hb => hch.out.2 b (So8.out.lt b hb) (by have h1 := So8.out.block_ge b hb; have h9 := HG5.out b hb; have h8 := HGQ.out; omega)))
     clear hch hS0 Hp8 Hb8 Hm8 Hrp8 Hrb8 Hq8 Sm8 Sn8 So8 HB8 HZ8
     generalize (((w4c.setCell ⟨w.heap.size + 1 + 1 + 1, 0, none⟩ (.int .i64 me)).setCell ⟨w.heap.size + 1 + 1 + 1, 1, none⟩ (.int .i64 N)).setCell ⟨w.heap.size + 1 + 1 + 1, 2, none⟩ (.slice p3 n3 c3)) = WPc at *
     refine hK.out _ _ ⟨Hp9.out.cell 0, Hp9.out.cell 1, Hp9.out.cell 2, Hb9.out.cell 0, Hb9.out.cell 1, Hb9.out.cell 2, Hm9.out.cell 0, Hm9.out.cell 1, Hm9.out.cell 2, Hm9.out.cell 3, Hm9.out.cell 4, Hm9.out.cell 5, Hm9.out.cell 6, Hm9.out.cell 7, Hm9.out.cell 8, Hm9.out.cell 9, Hm9.out.cell 10, Hq9.out.cell 0, Hq9.out.cell 1, Hq9.out.cell 2, Hq9.out.cell 3⟩ (fun hS0 => ?_)
     clear hK K
     try simp only [Act.put, List.getElem_toArray, List.getElem_cons_succ, List.getElem_cons_zero, List.setIfInBounds_toArray, List.set_cons_zero, List.set_cons_succ]
     refine rdq 13 (fun K hK => ?_)
     have z0 : WPc.cell? ⟨(w.heap.size + 1 + 1 + 1 + 1), 0, none⟩ = some (.int .i64 0) := Hrb9.out.cell 0
     have z1 : WPc.cell? ⟨(w.heap.size + 1 + 1 + 1 + 1), 1, none⟩ = some (.slice none 0 0) := Hrb9.out.cell 1
     have z2 : WPc.cell? ⟨(w.heap.size + 1 + 1 + 1 + 1), 2, none⟩ = some (.slice none 0 0) := Hrb9.out.cell 2
     have f0 := Hrb9.out.free 0
     have f1 := Hrb9.out.free 1
     have f2 := Hrb9.out.free 2
     go_simp
     clear z0 z1 z2 f0 f1 f2
     have hch := Lib.hid ((((Chg.refl (w.heap.size + 1 + 1 + 1 + 1) WPc).set 0 (.int .i64 mb)).set 1 (.slice pi ni ci)).set 2 (.slice po no co))
     have Hrb10 : Hid (Blk _ (w.heap.size + 1 + 1 + 1 + 1) #[.int .i64 mb, .slice pi ni ci, .slice po no co] 28) := Lib.hid (((Hrb9.out.set 0 (.int .i64 mb)).set 1 (.slice pi ni ci)).set 2 (.slice po no co))
     have HB10 := ksq HB9 hch (by show w.heap.size ≤ (w.heap.size + 1 + 1 + 1 + 1); omega)
     have HZ10 := kzq HZ9 hch.out.size
     have Hp10 := kcq Hp9 hch (by have := HGQ.out; omega)
     have Hb10 := kcq Hb9 hch (by have := HGQ.out; omega)
     have Hm10 := kcq Hm9 hch (by have := HGQ.out; omega)
     have Hrp10 := kcq Hrp9 hch (by have := HGQ.out; omega)
     have Hq10 := kcq Hq9 hch (by have := HGQ.out; omega)
     have Sm10 := Lib.hid (Sm9.out.stay (fun b hb => hch.out.2 b (Sm9.out.lt b hb) (by have h1 := Sm9.out.block_ge b hb; have h9 := HGM.out b hb; have h8 := HGQ.out; omega)))
     have Sn10 := Lib.hid (Sn9.out.stay (fun b hb => hch.out.2 b (Sn9.out.lt b hb) (by have h1 := Sn9.out.block_ge b hb; have h9 := HG3.out b hb; have h8 := HGQ.out; omega)))
     have So10 := Lib.hid (So9.out.stay (fun b hb => hch.out.2 b (So9.out.lt b hb) (by have h1 := So9.out.block_ge b hb; have h9 := HG5.out b hb; have h8 := HGQ.out; omega)))
     clear hch hS0 Hp9 Hb9 Hm9 Hrp9 Hrb9 Hq9 Sm9 Sn9 So9 HB9 HZ9
     generalize (((WPc.setCell ⟨w.heap.size + 1 + 1 + 1 + 1, 0, none⟩ (.int .i64 mb)).setCell ⟨w.heap.size + 1 + 1 + 1 + 1, 1, none⟩ (.slice pi ni ci)).setCell ⟨w.heap.size + 1 + 1 + 1 + 1, 2, none⟩ (.slice po no co)) = WQc at *
     refine hK.out _ _ ⟨Hp10.out.cell 0, Hp10.out.cell 1, Hp10.out.cell 2, Hb10.out.cell 0, Hb10.out.cell 1, Hb10.out.cell 2, Hm10.out.cell 0, Hm10.out.cell 1, Hm10.out.cell 2, Hm10.out.cell 3, Hm10.out.cell 4, Hm10.out.cell 5, Hm10.out.cell 6, Hm10.out.cell 7, Hm10.out.cell 8, Hm10.out.cell 9, Hm10.out.cell 10, Hq10.out.cell 0, Hq10.out.cell 1, Hq10.out.cell 2, Hq10.out.cell 3⟩ (fun hS0 => ?_)
     clear hK K
     try simp only [Act.put, List.getElem_toArray, List.getElem_cons_succ, List.getElem_cons_zero, List.setIfInBounds_toArray, List.set_cons_zero, List.set_cons_succ]
     refine tkq 14 ?_
     refine tkq 15 ?_
     refine wpAnyH_done (by kernel_rfl) ?_ _
     clear hS0
     obtain ⟨p5, c5, hv5⟩ := So10.out.form
     subst hv5
     go_wp2_with fail
     have hfp := Hrp10.out
     have hfb := Hrb10.out
     refine bodyPost_ret (v := .tuple #[.agg #[.int .i64 me, .int .i64 N, .slice p3 n3 c3], .agg #[.int .i64 mb, .slice pi ni ci, .slice po no co], .slice p5 [(⟨N, sayX 13 y.m.y false⟩ : SdX)].length c5, .int .i64 0]) (by simp [results, Try.results31, go_sem, hfp.cell 0, hfp.cell 1, hfp.cell 2, hfb.cell 0, hfb.cell 1, hfb.cell 2]) rfl ⟨HB10.out, p3, n3, c3, pi, ni, ci, _, insC ps (⟨q.cy, q.cu, 3, q.p, q.c, q.ls⟩ : PtX), xs, [⟨N, sayX 13 y.m.y false⟩], 0, rfl, insC_pts HV.out.pts HB10.out Sn10.out ⟨((HV.out.pts.ls q (openP_mem HQ.out)).1.kept HB10.out), (HV.out.pts.ls q (openP_mem HQ.out)).2.imp (fun _ h => .inl h)⟩ (fun _ h => .inl h) (fun b hb => .inr (Nat.le_trans HSN.out hb)), (HV.out.same HB10.out).2.1, (HV.out.same HB10.out).2.2, So10.out.less HSO.out, saidR_say _ _ _ _ _ _, ?_⟩
     refine ⟨rfl, fun h => absurd (by rw [HQ.out]) h, fun _ h => absurd (by rw [HQ.out]; exact HST.out) h, fun _ _ => ⟨rfl, ?_, ?_, ?_⟩⟩
     ·rw [HPB.out]
     ·intro _; rw [HQ.out]
     ·intro h; rw [HPB.out] at h; cases h
   ·have hNb : ((y.m.ns.length : Int) == N) = false := by simpa using hN
    have HPB : Hid (prepB me N xs y.m = false) := by
     show _ = _
     unfold prepB
     rw [decide_eq_false hN]; rfl
    clear hN
    go_upto_region 10 with fail
    clear c9 c10 a1 hNb
    have hbd := (Below.refl w7.heap.size w7).drew
    refine wp_region_held_drew (S := fun w' => w'.cell? ⟨w.heap.size, 0, none⟩ = some (.int .i64 me) ∧ w'.cell? ⟨w.heap.size, 1, none⟩ = some (.int .i64 N) ∧ w'.cell? ⟨w.heap.size, 2, none⟩ = some (.slice p n c) ∧ w'.cell? ⟨w.heap.size + 1, 0, none⟩ = some (.int .i64 mb) ∧ w'.cell? ⟨w.heap.size + 1, 1, none⟩ = some (.slice pi ni ci) ∧ w'.cell? ⟨w.heap.size + 1, 2, none⟩ = some (.slice po no co) ∧ w'.cell? ⟨w.heap.size + 1 + 1, 0, none⟩ = some (.int .i64 y.m.k) ∧ w'.cell? ⟨w.heap.size + 1 + 1, 1, none⟩ = some (.int .i64 y.m.s) ∧ w'.cell? ⟨w.heap.size + 1 + 1, 2, none⟩ = some (.int .i64 y.m.n) ∧ w'.cell? ⟨w.heap.size + 1 + 1, 3, none⟩ = some (.int .i64 y.m.b) ∧ w'.cell? ⟨w.heap.size + 1 + 1, 4, none⟩ = some (.int .i64 y.m.c) ∧ w'.cell? ⟨w.heap.size + 1 + 1, 5, none⟩ = some (.int .i64 y.m.r) ∧ w'.cell? ⟨w.heap.size + 1 + 1, 6, none⟩ = some (.int .i64 y.m.y) ∧ w'.cell? ⟨w.heap.size + 1 + 1, 7, none⟩ = some (.int .i64 y.m.a) ∧ w'.cell? ⟨w.heap.size + 1 + 1, 8, none⟩ = some (.bool y.m.t) ∧ w'.cell? ⟨w.heap.size + 1 + 1, 9, none⟩ = some (.slice y.pl y.m.ls.length y.cl) ∧ w'.cell? ⟨w.heap.size + 1 + 1, 10, none⟩ = some (.slice y.pn y.m.ns.length y.cn) ∧ w'.cell? ⟨gq, 0, none⟩ = some (.int .i64 q.cy) ∧ w'.cell? ⟨gq, 1, none⟩ = some (.int .i64 q.cu) ∧ w'.cell? ⟨gq, 2, none⟩ = some (.int .i64 3) ∧ w'.cell? ⟨gq, 3, none⟩ = some (.slice q.p q.ls.length q.c)) (by kernel_rfl) ⟨(Hp4.out.below hbd Hp4.out.lt).cell 0, (Hp4.out.below hbd Hp4.out.lt).cell 1, (Hp4.out.below hbd Hp4.out.lt).cell 2, (Hb4.out.below hbd Hb4.out.lt).cell 0, (Hb4.out.below hbd Hb4.out.lt).cell 1, (Hb4.out.below hbd Hb4.out.lt).cell 2, (Hm4.out.below hbd Hm4.out.lt).cell 0, (Hm4.out.below hbd Hm4.out.lt).cell 1, (Hm4.out.below hbd Hm4.out.lt).cell 2, (Hm4.out.below hbd Hm4.out.lt).cell 3, (Hm4.out.below hbd Hm4.out.lt).cell 4, (Hm4.out.below hbd Hm4.out.lt).cell 5, (Hm4.out.below hbd Hm4.out.lt).cell 6, (Hm4.out.below hbd Hm4.out.lt).cell 7, (Hm4.out.below hbd Hm4.out.lt).cell 8, (Hm4.out.below hbd Hm4.out.lt).cell 9, (Hm4.out.below hbd Hm4.out.lt).cell 10, (Hq4.out.below hbd Hq4.out.lt).cell 0, (Hq4.out.below hbd Hq4.out.lt).cell 1, (Hq4.out.below hbd Hq4.out.lt).cell 2, (Hq4.out.below hbd Hq4.out.lt).cell 3⟩ (fun hS0 => ?_)
    generalize w7.drew = WDd at *
    have Hp5 := kbq Hp4 hbd
    have Hb5 := kbq Hb4 hbd
    have Hm5 := kbq Hm4 hbd
    have Hrp5 := kbq Hrp4 hbd
    have Hrb5 := kbq Hrb4 hbd
    have Hq5 := kbq Hq4 hbd
    have Sm5 := Lib.hid (Sm4.out.later hbd)
    have HB5 := ktq HB4 hbd
    have HZ5 := kzq HZ4 hbd.size
    clear Hp4 Hb4 Hm4 Hrp4 Hrb4 Hq4 Sm4 HB4 HZ4
    clear hbd
    refine tkq 0 ?_
    refine tkq 1 ?_
    refine tkq 3 ?_
    refine tkq 4 ?_
    refine tkq 5 ?_
    refine tkq 6 ?_
    refine tkq 7 ?_
    refine tkq 8 ?_
    refine tkq 9 ?_
    refine tkq 10 ?_
    refine rdq 2 (fun K hK => ?_)
    have HG := Lib.hid (pwith_any WDd me N p n c ps (⟨q.cy, q.cu, 3, q.p, q.c, q.ls⟩ : PtX) (HV.out.pts.row.kept HB5.out) HV.out.np.1 (by have := HV.out.np; omega) HV.out.pts.srt)
    unfold PtX.v at HG
    go_simp
    go_at_call 50
    refine HG.out.mono ?_
    rintro y9 w3d ⟨p3, n3, c3, rfl, hown, hb⟩
    clear HG
    have HP3 := Lib.hid hown
    have HSN : Hid (w.heap.size ≤ WDd.heap.size) := Lib.hid HB5.out.size
    have HG3 : Hid (∀ g, (Value.slice p3 n3 c3).ownBlock = some g → gq < g) := fun g hg => by have h1 := hown.block_ge g hg; have h2 := Hq5.out.lt; omega
    clear hown
    have Hp6 := kbq Hp5 hb
    have Hb6 := kbq Hb5 hb
    have Hm6 := kbq Hm5 hb
    have Hrp6 := kbq Hrp5 hb
    have Hrb6 := kbq Hrb5 hb
    have Hq6 := kbq Hq5 hb
    have Sm6 := Lib.hid (Sm5.out.later hb)
    have HB6 := ktq HB5 hb
    have HZ6 := kzq HZ5 hb.size
    clear Hp5 Hb5 Hm5 Hrp5 Hrb5 Hq5 Sm5 HB5 HZ5
    clear hb hS0
    try go_wp2_with fail
    refine hK.out _ _ ⟨Hp6.out.cell 0, Hp6.out.cell 1, Hp6.out.cell 2, Hb6.out.cell 0, Hb6.out.cell 1, Hb6.out.cell 2, Hm6.out.cell 0, Hm6.out.cell 1, Hm6.out.cell 2, Hm6.out.cell 3, Hm6.out.cell 4, Hm6.out.cell 5, Hm6.out.cell 6, Hm6.out.cell 7, Hm6.out.cell 8, Hm6.out.cell 9, Hm6.out.cell 10, Hq6.out.cell 0, Hq6.out.cell 1, Hq6.out.cell 2, Hq6.out.cell 3⟩ (fun hS0 => ?_)
    clear hK K
    try simp only [Act.put, List.getElem_toArray, List.getElem_cons_succ, List.getElem_cons_zero, List.setIfInBounds_toArray, List.set_cons_zero, List.set_cons_succ]
    have Sn6 := HP3
    clear HP3
    refine rdq 11 (fun K hK => ?_)
    have HG := Lib.hid (says_any w3d me N p n c (sayX 13 y.m.y false))
    unfold sayX Msg.v at HG
    go_simp
    go_at_call 51
    refine HG.out.mono ?_
    rintro y9 w4d ⟨v5, rfl, hown, hb⟩
    clear HG
    have HS5 := Lib.hid hown
    have HSO : Hid (w.heap.size ≤ w3d.heap.size) := Lib.hid HB6.out.size
    have HG5 : Hid (∀ g, v5.ownBlock = some g → gq < g) := fun g hg => by have h1 := hown.block_ge g hg; have h2 := Hq6.out.lt; omega
    clear hown
    have Hp7 := kbq Hp6 hb
    have Hb7 := kbq Hb6 hb
    have Hm7 := kbq Hm6 hb
    have Hrp7 := kbq Hrp6 hb
    have Hrb7 := kbq Hrb6 hb
    have Hq7 := kbq Hq6 hb
    have Sm7 := Lib.hid (Sm6.out.later hb)
    have Sn7 := Lib.hid (Sn6.out.later hb)
    have HB7 := ktq HB6 hb
    have HZ7 := kzq HZ6 hb.size
    clear Hp6 Hb6 Hm6 Hrp6 Hrb6 Hq6 Sm6 Sn6 HB6 HZ6
    clear hb hS0
    try go_wp2_with fail
    refine hK.out _ _ ⟨Hp7.out.cell 0, Hp7.out.cell 1, Hp7.out.cell 2, Hb7.out.cell 0, Hb7.out.cell 1, Hb7.out.cell 2, Hm7.out.cell 0, Hm7.out.cell 1, Hm7.out.cell 2, Hm7.out.cell 3, Hm7.out.cell 4, Hm7.out.cell 5, Hm7.out.cell 6, Hm7.out.cell 7, Hm7.out.cell 8, Hm7.out.cell 9, Hm7.out.cell 10, Hq7.out.cell 0, Hq7.out.cell 1, Hq7.out.cell 2, Hq7.out.cell 3⟩ (fun hS0 => ?_)
    clear hK K
    try simp only [Act.put, List.getElem_toArray, List.getElem_cons_succ, List.getElem_cons_zero, List.setIfInBounds_toArray, List.set_cons_zero, List.set_cons_succ]
    have So7 := HS5
    clear HS5
    refine rdq 12 (fun K hK => ?_)
    have z0 : w4d.cell? ⟨(w.heap.size + 1 + 1 + 1), 0, none⟩ = some (.int .i64 0) := Hrp7.out.cell 0
    have z1 : w4d.cell? ⟨(w.heap.size + 1 + 1 + 1), 1, none⟩ = some (.int .i64 0) := Hrp7.out.cell 1
    have z2 : w4d.cell? ⟨(w.heap.size + 1 + 1 + 1), 2, none⟩ = some (.slice none 0 0) := Hrp7.out.cell 2
    have f0 := Hrp7.out.free 0
    have f1 := Hrp7.out.free 1
    have f2 := Hrp7.out.free 2
    go_simp
    clear z0 z1 z2 f0 f1 f2
    have hch := Lib.hid ((((Chg.refl (w.heap.size + 1 + 1 + 1) w4d).set 0 (.int .i64 me)).set 1 (.int .i64 N)).set 2 (.slice p3 n3 c3))
    have Hrp8 : Hid (Blk _ (w.heap.size + 1 + 1 + 1) #[.int .i64 me, .int .i64 N, .slice p3 n3 c3] 36) := Lib.hid (((Hrp7.out.set 0 (.int .i64 me)).set 1 (.int .i64 N)).set 2 (.slice p3 n3 c3))
    have HB8 := ksq HB7 hch (by show w.heap.size ≤ (w.heap.size + 1 + 1 + 1); omega)
    have HZ8 := kzq HZ7 hch.out.size
    have Hp8 := kcq Hp7 hch (by have := HGQ.out; omega)
    have Hb8 := kcq Hb7 hch (by have := HGQ.out; omega)
    have Hm8 := kcq Hm7 hch (by have := HGQ.out; omega)
    have Hrb8 := kcq Hrb7 hch (by have := HGQ.out; omega)
    have Hq8 := kcq Hq7 hch (by have := HGQ.out; omega)
    have Sm8 := Lib.hid (Sm7.out.stay (fun b hb => hch.out.2 b (Sm7.out.lt b hb) (by have h1 := Sm7.out.block_ge b hb; have h9 := HGM.out b hb; have h8 := HGQ.out; omega)))
    have Sn8 := Lib.hid (Sn7.out.stay (fun b hb => hch.out.2 b (Sn7.out.lt b hb) (by have h1 := Sn7.out.block_ge b hb; have h9 := HG3.out b hb; have h8 := HGQ.out; omega)))
    have So8 := Lib.hid (So7.out.stay (fun b hb => hch.out.2 b (So7.out.lt b hb) (by have h1 := So7.out.block_ge b hb; have h9 := HG5.out b hb; have h8 := HGQ.out; omega)))
    clear hch hS0 Hp7 Hb7 Hm7 Hrp7 Hrb7 Hq7 Sm7 Sn7 So7 HB7 HZ7
    generalize (((w4d.setCell ⟨w.heap.size + 1 + 1 + 1, 0, none⟩ (.int .i64 me)).setCell ⟨w.heap.size + 1 + 1 + 1, 1, none⟩ (.int .i64 N)).setCell ⟨w.heap.size + 1 + 1 + 1, 2, none⟩ (.slice p3 n3 c3)) = WPd at *
    refine hK.out _ _ ⟨Hp8.out.cell 0, Hp8.out.cell 1, Hp8.out.cell 2, Hb8.out.cell 0, Hb8.out.cell 1, Hb8.out.cell 2, Hm8.out.cell 0, Hm8.out.cell 1, Hm8.out.cell 2, Hm8.out.cell 3, Hm8.out.cell 4, Hm8.out.cell 5, Hm8.out.cell 6, Hm8.out.cell 7, Hm8.out.cell 8, Hm8.out.cell 9, Hm8.out.cell 10, Hq8.out.cell 0, Hq8.out.cell 1, Hq8.out.cell 2, Hq8.out.cell 3⟩ (fun hS0 => ?_)
    clear hK K
    try simp only [Act.put, List.getElem_toArray, List.getElem_cons_succ, List.getElem_cons_zero, List.setIfInBounds_toArray, List.set_cons_zero, List.set_cons_succ]
    refine rdq 13 (fun K hK => ?_)
    have z0 : WPd.cell? ⟨(w.heap.size + 1 + 1 + 1 + 1), 0, none⟩ = some (.int .i64 0) := Hrb8.out.cell 0
    have z1 : WPd.cell? ⟨(w.heap.size + 1 + 1 + 1 + 1), 1, none⟩ = some (.slice none 0 0) := Hrb8.out.cell 1
    have z2 : WPd.cell? ⟨(w.heap.size + 1 + 1 + 1 + 1), 2, none⟩ = some (.slice none 0 0) := Hrb8.out.cell 2
    have f0 := Hrb8.out.free 0
    have f1 := Hrb8.out.free 1
    have f2 := Hrb8.out.free 2
    go_simp
    clear z0 z1 z2 f0 f1 f2
    have hch := Lib.hid ((((Chg.refl (w.heap.size + 1 + 1 + 1 + 1) WPd).set 0 (.int .i64 mb)).set 1 (.slice pi ni ci)).set 2 (.slice po no co))
    have Hrb9 : Hid (Blk _ (w.heap.size + 1 + 1 + 1 + 1) #[.int .i64 mb, .slice pi ni ci, .slice po no co] 28) := Lib.hid (((Hrb8.out.set 0 (.int .i64 mb)).set 1 (.slice pi ni ci)).set 2 (.slice po no co))
    have HB9 := ksq HB8 hch (by show w.heap.size ≤ (w.heap.size + 1 + 1 + 1 + 1); omega)
    have HZ9 := kzq HZ8 hch.out.size
    have Hp9 := kcq Hp8 hch (by have := HGQ.out; omega)
    have Hb9 := kcq Hb8 hch (by have := HGQ.out; omega)
    have Hm9 := kcq Hm8 hch (by have := HGQ.out; omega)
    have Hrp9 := kcq Hrp8 hch (by have := HGQ.out; omega)
    have Hq9 := kcq Hq8 hch (by have := HGQ.out; omega)
    have Sm9 := Lib.hid (Sm8.out.stay (fun b hb => hch.out.2 b (Sm8.out.lt b hb) (by have h1 := Sm8.out.block_ge b hb; have h9 := HGM.out b hb; have h8 := HGQ.out; omega)))
    have Sn9 := Lib.hid (Sn8.out.stay (fun b hb => hch.out.2 b (Sn8.out.lt b hb) (by have h1 := Sn8.out.block_ge b hb; have h9 := HG3.out b hb; have h8 := HGQ.out; omega)))
    have So9 := Lib.hid (So8.out.stay (fun b hb => hch.out.2 b (So8.out.lt b hb) (by have h1 := So8.out.block_ge b hb; have h9 := HG5.out b hb; have h8 := HGQ.out; omega)))
    clear hch hS0 Hp8 Hb8 Hm8 Hrp8 Hrb8 Hq8 Sm8 Sn8 So8 HB8 HZ8
    generalize (((WPd.setCell ⟨w.heap.size + 1 + 1 + 1 + 1, 0, none⟩ (.int .i64 mb)).setCell ⟨w.heap.size + 1 + 1 + 1 + 1, 1, none⟩ (.slice pi ni ci)).setCell ⟨w.heap.size + 1 + 1 + 1 + 1, 2, none⟩ (.slice po no co)) = WQd at *
    refine hK.out _ _ ⟨Hp9.out.cell 0, Hp9.out.cell 1, Hp9.out.cell 2, Hb9.out.cell 0, Hb9.out.cell 1, Hb9.out.cell 2, Hm9.out.cell 0, Hm9.out.cell 1, Hm9.out.cell 2, Hm9.out.cell 3, Hm9.out.cell 4, Hm9.out.cell 5, Hm9.out.cell 6, Hm9.out.cell 7, Hm9.out.cell 8, Hm9.out.cell 9, Hm9.out.cell 10, Hq9.out.cell 0, Hq9.out.cell 1, Hq9.out.cell 2, Hq9.out.cell 3⟩ (fun hS0 => ?_)
    clear hK K
    try simp only [Act.put, List.getElem_toArray, List.getElem_cons_succ, List.getElem_cons_zero, List.setIfInBounds_toArray, List.set_cons_zero, List.set_cons_succ]
    refine tkq 14 ?_
    refine tkq 15 ?_
    refine wpAnyH_done (by kernel_rfl) ?_ _
    clear hS0
    obtain ⟨p5, c5, hv5⟩ := So9.out.form
    subst hv5
    go_wp2_with fail
    have hfp := Hrp9.out
    have hfb := Hrb9.out
    refine bodyPost_ret (v := .tuple #[.agg #[.int .i64 me, .int .i64 N, .slice p3 n3 c3], .agg #[.int .i64 mb, .slice pi ni ci, .slice po no co], .slice p5 [(⟨N, sayX 13 y.m.y false⟩ : SdX)].length c5, .int .i64 0]) (by simp [results, Try.results31, go_sem, hfp.cell 0, hfp.cell 1, hfp.cell 2, hfb.cell 0, hfb.cell 1, hfb.cell 2]) rfl ⟨HB9.out, p3, n3, c3, pi, ni, ci, _, insC ps (⟨q.cy, q.cu, 3, q.p, q.c, q.ls⟩ : PtX), xs, [⟨N, sayX 13 y.m.y false⟩], 0, rfl, insC_pts HV.out.pts HB9.out Sn9.out ⟨((HV.out.pts.ls q (openP_mem HQ.out)).1.kept HB9.out), (HV.out.pts.ls q (openP_mem HQ.out)).2.imp (fun _ h => .inl h)⟩ (fun _ h => .inl h) (fun b hb => .inr (Nat.le_trans HSN.out hb)), (HV.out.same HB9.out).2.1, (HV.out.same HB9.out).2.2, So9.out.less HSO.out, saidR_say _ _ _ _ _ _, ?_⟩
    refine ⟨rfl, fun h => absurd (by rw [HQ.out]) h, fun _ h => absurd (by rw [HQ.out]; exact HST.out) h, fun _ _ => ⟨rfl, ?_, ?_, ?_⟩⟩
    ·rw [HPB.out]
    ·intro _; rw [HQ.out]
    ·intro h; rw [HPB.out] at h; cases h
  ·have h1b : (q.st != 1) = true := by simpa using h1
   have HST : Hid (q.st ≠ 1) := h1
   clear h1
   go_upto_region 5 with fail
   clear x2 h1b
   clear Hq2
   have hbd := (Below.refl W1.heap.size W1).drew
   refine wp_region_held_drew (S := fun w' => w'.cell? ⟨w.heap.size, 0, none⟩ = some (.int .i64 me) ∧ w'.cell? ⟨w.heap.size, 1, none⟩ = some (.int .i64 N) ∧ w'.cell? ⟨w.heap.size, 2, none⟩ = some (.slice p n c) ∧ w'.cell? ⟨w.heap.size + 1, 0, none⟩ = some (.int .i64 mb) ∧ w'.cell? ⟨w.heap.size + 1, 1, none⟩ = some (.slice pi ni ci) ∧ w'.cell? ⟨w.heap.size + 1, 2, none⟩ = some (.slice po no co)) (by kernel_rfl) ⟨(Hp2.out.below hbd Hp2.out.lt).cell 0, (Hp2.out.below hbd Hp2.out.lt).cell 1, (Hp2.out.below hbd Hp2.out.lt).cell 2, (Hb2.out.below hbd Hb2.out.lt).cell 0, (Hb2.out.below hbd Hb2.out.lt).cell 1, (Hb2.out.below hbd Hb2.out.lt).cell 2⟩ (fun hS0 => ?_)
   generalize W1.drew = WDe at *
   have Hp3 := kbq Hp2 hbd
   have Hb3 := kbq Hb2 hbd
   have Hm3 := kbq Hm2 hbd
   have Hrp3 := kbq Hrp2 hbd
   have Hrb3 := kbq Hrb2 hbd
   have HB3 := ktq HB2 hbd
   have HZ3 := kzq HZ2 hbd.size
   clear Hp2 Hb2 Hm2 Hrp2 Hrb2 HB2 HZ2
   clear hbd
   refine tkq 0 ?_
   refine tkq 1 ?_
   refine rdq 2 (fun K hK => ?_)
   have z0 : WDe.cell? ⟨(w.heap.size + 1 + 1 + 1), 0, none⟩ = some (.int .i64 0) := Hrp3.out.cell 0
   have z1 : WDe.cell? ⟨(w.heap.size + 1 + 1 + 1), 1, none⟩ = some (.int .i64 0) := Hrp3.out.cell 1
   have z2 : WDe.cell? ⟨(w.heap.size + 1 + 1 + 1), 2, none⟩ = some (.slice none 0 0) := Hrp3.out.cell 2
   have f0 := Hrp3.out.free 0
   have f1 := Hrp3.out.free 1
   have f2 := Hrp3.out.free 2
   go_simp
   clear z0 z1 z2 f0 f1 f2
   have hch := Lib.hid ((((Chg.refl (w.heap.size + 1 + 1 + 1) WDe).set 0 (.int .i64 me)).set 1 (.int .i64 N)).set 2 (.slice p n c))
   have Hrp4 : Hid (Blk _ (w.heap.size + 1 + 1 + 1) #[.int .i64 me, .int .i64 N, .slice p n c] 36) := Lib.hid (((Hrp3.out.set 0 (.int .i64 me)).set 1 (.int .i64 N)).set 2 (.slice p n c))
   have HB4 := ksq HB3 hch (by show w.heap.size ≤ (w.heap.size + 1 + 1 + 1); omega)
   have HZ4 := kzq HZ3 hch.out.size
   have Hp4 := kcq Hp3 hch (by omega)
   have Hb4 := kcq Hb3 hch (by omega)
   have Hm4 := kcq Hm3 hch (by omega)
   have Hrb4 := kcq Hrb3 hch (by omega)
   clear hch hS0 Hp3 Hb3 Hm3 Hrp3 Hrb3 HB3 HZ3
   generalize (((WDe.setCell ⟨w.heap.size + 1 + 1 + 1, 0, none⟩ (.int .i64 me)).setCell ⟨w.heap.size + 1 + 1 + 1, 1, none⟩ (.int .i64 N)).setCell ⟨w.heap.size + 1 + 1 + 1, 2, none⟩ (.slice p n c)) = WPe at *
   refine hK.out _ _ ⟨Hp4.out.cell 0, Hp4.out.cell 1, Hp4.out.cell 2, Hb4.out.cell 0, Hb4.out.cell 1, Hb4.out.cell 2⟩ (fun hS0 => ?_)
   clear hK K
   try simp only [Act.put, List.getElem_toArray, List.getElem_cons_succ, List.getElem_cons_zero, List.setIfInBounds_toArray, List.set_cons_zero, List.set_cons_succ]
   refine rdq 3 (fun K hK => ?_)
   have z0 : WPe.cell? ⟨(w.heap.size + 1 + 1 + 1 + 1), 0, none⟩ = some (.int .i64 0) := Hrb4.out.cell 0
   have z1 : WPe.cell? ⟨(w.heap.size + 1 + 1 + 1 + 1), 1, none⟩ = some (.slice none 0 0) := Hrb4.out.cell 1
   have z2 : WPe.cell? ⟨(w.heap.size + 1 + 1 + 1 + 1), 2, none⟩ = some (.slice none 0 0) := Hrb4.out.cell 2
   have f0 := Hrb4.out.free 0
   have f1 := Hrb4.out.free 1
   have f2 := Hrb4.out.free 2
   go_simp
   clear z0 z1 z2 f0 f1 f2
   have hch := Lib.hid ((((Chg.refl (w.heap.size + 1 + 1 + 1 + 1) WPe).set 0 (.int .i64 mb)).set 1 (.slice pi ni ci)).set 2 (.slice po no co))
   have Hrb5 : Hid (Blk _ (w.heap.size + 1 + 1 + 1 + 1) #[.int .i64 mb, .slice pi ni ci, .slice po no co] 28) := Lib.hid (((Hrb4.out.set 0 (.int .i64 mb)).set 1 (.slice pi ni ci)).set 2 (.slice po no co))
   have HB5 := ksq HB4 hch (by show w.heap.size ≤ (w.heap.size + 1 + 1 + 1 + 1); omega)
   have HZ5 := kzq HZ4 hch.out.size
   have Hp5 := kcq Hp4 hch (by omega)
   have Hb5 := kcq Hb4 hch (by omega)
   have Hm5 := kcq Hm4 hch (by omega)
   have Hrp5 := kcq Hrp4 hch (by omega)
   clear hch hS0 Hp4 Hb4 Hm4 Hrp4 Hrb4 HB4 HZ4
   generalize (((WPe.setCell ⟨w.heap.size + 1 + 1 + 1 + 1, 0, none⟩ (.int .i64 mb)).setCell ⟨w.heap.size + 1 + 1 + 1 + 1, 1, none⟩ (.slice pi ni ci)).setCell ⟨w.heap.size + 1 + 1 + 1 + 1, 2, none⟩ (.slice po no co)) = WQe at *
   refine hK.out _ _ ⟨Hp5.out.cell 0, Hp5.out.cell 1, Hp5.out.cell 2, Hb5.out.cell 0, Hb5.out.cell 1, Hb5.out.cell 2⟩ (fun hS0 => ?_)
   clear hK K
   try simp only [Act.put, List.getElem_toArray, List.getElem_cons_succ, List.getElem_cons_zero, List.setIfInBounds_toArray, List.set_cons_zero, List.set_cons_succ]
   refine tkq 4 ?_
   refine tkq 5 ?_
   refine wpAnyH_done (by kernel_rfl) ?_ _
   clear hS0
   go_wp2_with fail
   have hfp := Hrp5.out
   have hfb := Hrb5.out
   refine bodyPost_ret (v := .tuple #[.agg #[.int .i64 me, .int .i64 N, .slice p n c], .agg #[.int .i64 mb, .slice pi ni ci, .slice po no co], .slice none 0 0, .int .i64 90]) (by simp [results, Try.results31, go_sem, hfp.cell 0, hfp.cell 1, hfp.cell 2, hfb.cell 0, hfb.cell 1, hfb.cell 2]) rfl ⟨HB5.out, p, n, c, pi, ni, ci, _, ps, xs, [], 90, rfl, (HV.out.same HB5.out).1, (HV.out.same HB5.out).2.1, (HV.out.same HB5.out).2.2, OwnT.nil_ _ _ _ _, saidR_nil _ _, rfl, fun h => absurd (by rw [HQ.out]) h, fun _ _ => ⟨rfl, rfl, rfl⟩, fun _ h => absurd (by rw [HQ.out] at h; exact h) HST.out⟩
 ·have hfb : (f != 0) = true := by simpa using hf
  have HF : Hid (f ≠ 0) := hf
  clear hf
  go_upto_region 3 with fail
  clear hfb
  clear Hq2
  have hbd := (Below.refl W1.heap.size W1).drew
  refine wp_region_held_drew (S := fun w' => w'.cell? ⟨w.heap.size, 0, none⟩ = some (.int .i64 me) ∧ w'.cell? ⟨w.heap.size, 1, none⟩ = some (.int .i64 N) ∧ w'.cell? ⟨w.heap.size, 2, none⟩ = some (.slice p n c) ∧ w'.cell? ⟨w.heap.size + 1, 0, none⟩ = some (.int .i64 mb) ∧ w'.cell? ⟨w.heap.size + 1, 1, none⟩ = some (.slice pi ni ci) ∧ w'.cell? ⟨w.heap.size + 1, 2, none⟩ = some (.slice po no co)) (by kernel_rfl) ⟨(Hp2.out.below hbd Hp2.out.lt).cell 0, (Hp2.out.below hbd Hp2.out.lt).cell 1, (Hp2.out.below hbd Hp2.out.lt).cell 2, (Hb2.out.below hbd Hb2.out.lt).cell 0, (Hb2.out.below hbd Hb2.out.lt).cell 1, (Hb2.out.below hbd Hb2.out.lt).cell 2⟩ (fun hS0 => ?_)
  generalize W1.drew = WDf at *
  have Hp3 := kbq Hp2 hbd
  have Hb3 := kbq Hb2 hbd
  have Hm3 := kbq Hm2 hbd
  have Hrp3 := kbq Hrp2 hbd
  have Hrb3 := kbq Hrb2 hbd
  have HB3 := ktq HB2 hbd
  have HZ3 := kzq HZ2 hbd.size
  clear Hp2 Hb2 Hm2 Hrp2 Hrb2 HB2 HZ2
  clear hbd
  refine tkq 0 ?_
  refine tkq 1 ?_
  refine tkq 2 ?_
  refine rdq 3 (fun K hK => ?_)
  have z0 : WDf.cell? ⟨(w.heap.size + 1 + 1 + 1), 0, none⟩ = some (.int .i64 0) := Hrp3.out.cell 0
  have z1 : WDf.cell? ⟨(w.heap.size + 1 + 1 + 1), 1, none⟩ = some (.int .i64 0) := Hrp3.out.cell 1
  have z2 : WDf.cell? ⟨(w.heap.size + 1 + 1 + 1), 2, none⟩ = some (.slice none 0 0) := Hrp3.out.cell 2
  have f0 := Hrp3.out.free 0
  have f1 := Hrp3.out.free 1
  have f2 := Hrp3.out.free 2
  go_simp
  clear z0 z1 z2 f0 f1 f2
  have hch := Lib.hid ((((Chg.refl (w.heap.size + 1 + 1 + 1) WDf).set 0 (.int .i64 me)).set 1 (.int .i64 N)).set 2 (.slice p n c))
  have Hrp4 : Hid (Blk _ (w.heap.size + 1 + 1 + 1) #[.int .i64 me, .int .i64 N, .slice p n c] 36) := Lib.hid (((Hrp3.out.set 0 (.int .i64 me)).set 1 (.int .i64 N)).set 2 (.slice p n c))
  have HB4 := ksq HB3 hch (by show w.heap.size ≤ (w.heap.size + 1 + 1 + 1); omega)
  have HZ4 := kzq HZ3 hch.out.size
  have Hp4 := kcq Hp3 hch (by omega)
  have Hb4 := kcq Hb3 hch (by omega)
  have Hm4 := kcq Hm3 hch (by omega)
  have Hrb4 := kcq Hrb3 hch (by omega)
  clear hch hS0 Hp3 Hb3 Hm3 Hrp3 Hrb3 HB3 HZ3
  generalize (((WDf.setCell ⟨w.heap.size + 1 + 1 + 1, 0, none⟩ (.int .i64 me)).setCell ⟨w.heap.size + 1 + 1 + 1, 1, none⟩ (.int .i64 N)).setCell ⟨w.heap.size + 1 + 1 + 1, 2, none⟩ (.slice p n c)) = WPf at *
  refine hK.out _ _ ⟨Hp4.out.cell 0, Hp4.out.cell 1, Hp4.out.cell 2, Hb4.out.cell 0, Hb4.out.cell 1, Hb4.out.cell 2⟩ (fun hS0 => ?_)
  clear hK K
  try simp only [Act.put, List.getElem_toArray, List.getElem_cons_succ, List.getElem_cons_zero, List.setIfInBounds_toArray, List.set_cons_zero, List.set_cons_succ]
  refine rdq 4 (fun K hK => ?_)
  have z0 : WPf.cell? ⟨(w.heap.size + 1 + 1 + 1 + 1), 0, none⟩ = some (.int .i64 0) := Hrb4.out.cell 0
  have z1 : WPf.cell? ⟨(w.heap.size + 1 + 1 + 1 + 1), 1, none⟩ = some (.slice none 0 0) := Hrb4.out.cell 1
  have z2 : WPf.cell? ⟨(w.heap.size + 1 + 1 + 1 + 1), 2, none⟩ = some (.slice none 0 0) := Hrb4.out.cell 2
  have f0 := Hrb4.out.free 0
  have f1 := Hrb4.out.free 1
  have f2 := Hrb4.out.free 2
  go_simp
  clear z0 z1 z2 f0 f1 f2
  have hch := Lib.hid ((((Chg.refl (w.heap.size + 1 + 1 + 1 + 1) WPf).set 0 (.int .i64 mb)).set 1 (.slice pi ni ci)).set 2 (.slice po no co))
  have Hrb5 : Hid (Blk _ (w.heap.size + 1 + 1 + 1 + 1) #[.int .i64 mb, .slice pi ni ci, .slice po no co] 28) := Lib.hid (((Hrb4.out.set 0 (.int .i64 mb)).set 1 (.slice pi ni ci)).set 2 (.slice po no co))
  have HB5 := ksq HB4 hch (by show w.heap.size ≤ (w.heap.size + 1 + 1 + 1 + 1); omega)
  have HZ5 := kzq HZ4 hch.out.size
  have Hp5 := kcq Hp4 hch (by omega)
  have Hb5 := kcq Hb4 hch (by omega)
  have Hm5 := kcq Hm4 hch (by omega)
  have Hrp5 := kcq Hrp4 hch (by omega)
  clear hch hS0 Hp4 Hb4 Hm4 Hrp4 Hrb4 HB4 HZ4
  generalize (((WPf.setCell ⟨w.heap.size + 1 + 1 + 1 + 1, 0, none⟩ (.int .i64 mb)).setCell ⟨w.heap.size + 1 + 1 + 1 + 1, 1, none⟩ (.slice pi ni ci)).setCell ⟨w.heap.size + 1 + 1 + 1 + 1, 2, none⟩ (.slice po no co)) = WQf at *
  refine hK.out _ _ ⟨Hp5.out.cell 0, Hp5.out.cell 1, Hp5.out.cell 2, Hb5.out.cell 0, Hb5.out.cell 1, Hb5.out.cell 2⟩ (fun hS0 => ?_)
  clear hK K
  try simp only [Act.put, List.getElem_toArray, List.getElem_cons_succ, List.getElem_cons_zero, List.setIfInBounds_toArray, List.set_cons_zero, List.set_cons_succ]
  refine tkq 5 ?_
  refine tkq 6 ?_
  refine wpAnyH_done (by kernel_rfl) ?_ _
  clear hS0
  go_wp2_with fail
  have hfp := Hrp5.out
  have hfb := Hrb5.out
  refine bodyPost_ret (v := .tuple #[.agg #[.int .i64 me, .int .i64 N, .slice p n c], .agg #[.int .i64 mb, .slice pi ni ci, .slice po no co], .slice none 0 0, .int .i64 f]) (by simp [results, Try.results31, go_sem, hfp.cell 0, hfp.cell 1, hfp.cell 2, hfb.cell 0, hfb.cell 1, hfb.cell 2]) rfl ⟨HB5.out, p, n, c, pi, ni, ci, _, ps, xs, [], f, rfl, (HV.out.same HB5.out).1, (HV.out.same HB5.out).2.1, (HV.out.same HB5.out).2.2, OwnT.nil_ _ _ _ _, saidR_nil _ _, rfl, fun _ => ⟨rfl, rfl, by rw [HQ.out]⟩, fun h => absurd (by rw [HQ.out] at h; exact h) HF.out, fun h => absurd (by rw [HQ.out] at h; exact h) HF.out⟩
end Go.Proofs.Ytmhocihajobkkaa
namespace Go.Proofs.Ytmhocihajobkkaa
open Go.RowKit
/-- The closure that book.agreed hands over says p, in every world that leaves what lies below base. -/
def Says (p : Itm → Bool) (base bf : Nat) (w : World) : Prop := ∀ W, Below base w W → ∀ x : Itm, Calls Try.prog 41 #[x.v, .pointer (some ⟨bf, 0, none⟩)] W fun e w' => e = .returned (.bool (p x)) ∧ Below W.heap.size W w'
def IdxR (p : Itm → Bool) (xs : List Itm) (r : Int) : Prop := (r = -1 ∧ ∀ x ∈ xs, p x = false) ∨ ∃ i : Nat, r = i ∧ ∃ hi : i < xs.length, p xs[i] = true ∧ ∀ j (hj : j < xs.length), j < i → p xs[j] = false
set_option linter.unusedSimpArgs false in
set_option maxHeartbeats 4000000 in
set_option maxRecDepth 100000 in
theorem idx_any (w : World) (v : Value) (xs : List Itm) (p : Itm → Bool) (base bf : Nat) (hr : TRow encI w v xs) (hP : Says p base bf w) (hb : base ≤ w.heap.size) (hn : xs.length ≤ 2000) :
  Calls Try.prog 62 #[v, (.func (.func 41) #[] #[.pointer (some ⟨bf, 0, none⟩)])] w fun e w' => ∃ r, e = .returned (.int .i64 r) ∧ IdxR p xs r ∧ Below w.heap.size w w' := by
 obtain ⟨pv, c, rfl⟩ := hr.shape
 have HR := Lib.hid hr
 have HPP := Lib.hid hP
 have HBB := Lib.hid hb
 clear hr hP hb
 generalize hl : xs.length = n at *
 have HL := Lib.hid hl
 clear hl
 go_enter Try.func62, Try.ntmps62
 go_wp2_with fail
 go_loopw [5, 8] (fun _ i wr => ∃ k : Nat, k ≤ n ∧ i = .int .i64 k ∧ Hid (Below w.heap.size w wr ∧ ∀ j (hj : j < xs.length), j < k → p xs[j] = false)) (fun _ i _ => n - (intOf i).toNat)
 case atStart => exact ⟨0, by omega, rfl, ⟨Below.refl _ _, fun j hj h => by omega⟩⟩
 case round =>
  obtain ⟨k, hk, rfl, HB⟩ := hrel
  by_cases hlt : k < n
  ·have hkl : k < xs.length := by rw [HL.out]; exact hlt
   have hltI : (k : Int) < (n : Int) := by omega
   obtain ⟨b, o, rfl, hbl, hcs⟩ := (HR.out.kept HB.out.1).at_ k hkl
   obtain ⟨x, hx⟩ : ∃ x, xs[k] = x := ⟨_, rfl⟩
   have HX := Lib.hid hx
   rw [hx] at hcs
   clear hx
   have c0 : wr.cell? ⟨b, o + k * 8, none⟩ = some (.int .i64 x.s) := hcs 0 (by decide)
   have c1 : wr.cell? ⟨b, o + k * 8 + 1, none⟩ = some (.int .i64 x.n) := hcs 1 (by decide)
   have c2 : wr.cell? ⟨b, o + k * 8 + 2, none⟩ = some (.int .i64 x.b) := hcs 2 (by decide)
   have c3 : wr.cell? ⟨b, o + k * 8 + 3, none⟩ = some (.int .i64 x.c) := hcs 3 (by decide)
   have c4 : wr.cell? ⟨b, o + k * 8 + 4, none⟩ = some (.int .i64 x.a) := hcs 4 (by decide)
   have c5 : wr.cell? ⟨b, o + k * 8 + 5, none⟩ = some (.int .i64 x.r) := hcs 5 (by decide)
   have c6 : wr.cell? ⟨b, o + k * 8 + 6, none⟩ = some (.int .i64 x.t) := hcs 6 (by decide)
   have c7 : wr.cell? ⟨b, o + k * 8 + 7, none⟩ = some (.int .i64 x.y) := hcs 7 (by decide)
   have HD := Lib.hid (HPP.out wr (HB.out.1.mono HBB.out) x)
   unfold Itm.v at HD
   obtain ⟨px, hpx⟩ : ∃ px, p x = px := ⟨_, rfl⟩
   rw [hpx] at HD
   have HPX := Lib.hid hpx
   clear hcs hpx
   cases px
   ·go_wp2_with fail
    refine HD.out.mono ?_
    rintro y w1 ⟨rfl, hb⟩
    have HN : Hid (Below w.heap.size w w1 ∧ ∀ j (hj : j < xs.length), j < k + 1 → p xs[j] = false) := ⟨HB.out.1.trans (hb.mono HB.out.1.size), fun j hj h => by
     by_cases e : j = k
     ·subst e; rw [HX.out]; exact HPX.out
     ·exact HB.out.2 j hj (by omega)⟩
    clear hb c0 c1 c2 c3 c4 c5 c6 c7 HD
    go_wp2_with fail
    go_roundw
    case rel => exact ⟨k + 1, by omega, by go_num, HN⟩
    case measure => simp [intOf]; omega
   ·go_wp2_with fail
    refine HD.out.mono ?_
    rintro y w1 ⟨rfl, hb⟩
    have HN := Lib.hid (HB.out.1.trans (hb.mono HB.out.1.size))
    clear hb c0 c1 c2 c3 c4 c5 c6 c7 HD
    go_wp2_with fail
    go_ret
    exact ⟨_, rfl, .inr ⟨k, rfl, hkl, by rw [HX.out]; exact HPX.out, fun j hj h => HB.out.2 j hj h⟩, HN.out⟩
  ·have hle : (n : Int) ≤ (k : Int) := by omega
   go_wp2_with fail
   go_ret
   exact ⟨_, rfl, .inl ⟨rfl, fun x hx => by
    obtain ⟨j, hj, rfl⟩ := List.mem_iff_getElem.1 hx
    exact HB.out.2 j hj (by have := HL.out; omega)⟩, HB.out.1⟩
theorem zeroVI_run (w : World) : (zeroValue 54).run Try.prog w = .ok zeroVI w := by
 obtain ⟨i, _, hi, hz, _⟩ := eltI
 simp [zeroValue, typeInfo, hi, hz]
theorem zeroVI_one : ∀ v ∈ zeroVI.cells, v.oneCell' = true := fun v hv => encI.one ⟨0, 0, 0, 0, 0, 0, 0, 0⟩ v (by simpa [zeroVI, Value.cells, Itm.cells] using hv)
/-- Where the deleting stands: i are kept, j looked at. -/
def DRel (p : Itm → Bool) (xs : List Itm) (w : World) (base g n c i j : Nat) (wr : World) : Prop := Below base w wr ∧ ∃ ys : List Itm, OwnT encI wr base 54 (.slice (some ⟨g, 0, none⟩) n c) ys ∧ ys.take i = (xs.take j).filter (fun x => !p x) ∧ ys.drop j = xs.drop j
theorem filt_take {p : Itm → Bool} {xs : List Itm} {j : Nat} (hj : j < xs.length) : (xs.take (j + 1)).filter (fun x => !p x) = (xs.take j).filter (fun x => !p x) ++ (if p xs[j] then [] else [xs[j]]) := by
 rw [List.take_succ_eq_append_getElem hj, List.filter_append]
 congr 1
 cases h : p xs[j] <;> simp [h]
theorem drop_at {ys xs : List Itm} {j : Nat} (h : ys.drop j = xs.drop j) (hj : j < xs.length) (hy : j < ys.length) : ys[j] = xs[j] := by
 have h1 := congrArg (fun l => l[0]?) h
 simp only [List.getElem?_drop, Nat.add_zero] at h1
 rw [List.getElem?_eq_getElem hj, List.getElem?_eq_getElem hy] at h1
 exact Option.some.inj h1
theorem drop_succ {ys xs : List Itm} {j : Nat} (h : ys.drop j = xs.drop j) : ys.drop (j + 1) = xs.drop (j + 1) := by
 have h1 := congrArg (List.drop 1) h
 rwa [List.drop_drop, List.drop_drop] at h1
set_option linter.unusedSimpArgs false in
set_option maxHeartbeats 4000000 in
set_option maxRecDepth 100000 in
theorem delete_any (w : World) (v : Value) (xs : List Itm) (p : Itm → Bool) (base bf : Nat) (hr : OwnT encI w base 54 v xs) (hP : Says p base bf w) (hb : base ≤ w.heap.size) (hn : xs.length ≤ 2000) :
  Calls Try.prog 39 #[v, (.func (.func 41) #[] #[.pointer (some ⟨bf, 0, none⟩)])] w fun e w' => ∃ v', e = .returned v' ∧ OwnT encI w' base 54 v' (xs.filter (fun x => !p x)) ∧ Below base w w' := by
 have HI := Lib.hid (idx_any w v xs p base bf hr.row hP hb hn)
 obtain ⟨pv, c, rfl⟩ := hr.form
 have HR := Lib.hid hr
 have HPP := Lib.hid hP
 have HBB := Lib.hid hb
 clear hr hP hb
 generalize hl : xs.length = n at *
 have HL := Lib.hid hl
 clear hl
 go_enter Try.func39, Try.ntmps39
 go_wp2_with fail
 refine HI.out.mono ?_
 rintro y w1 ⟨r, rfl, hix, hb1⟩
 have HB1 := Lib.hid hb1
 have HR1 := Lib.hid (HR.out.later hb1)
 clear hb1 HI
 rcases hix with ⟨rfl, hall⟩ | ⟨i0, rfl, hi0, hpi, hbe⟩
 ·have HF : Hid (xs.filter (fun x => !p x) = xs) := by show _ = _; rw [List.filter_eq_self]; intro x hx; rw [hall x hx]; rfl
  clear hall
  go_wp2_with fail
  go_ret
  exact ⟨_, rfl, by rw [HF.out]; exact HR1.out, HB1.out.mono HBB.out⟩
 ·have hi0n : i0 < n := by rw [← HL.out]; exact hi0
  obtain ⟨g, cur, hpv, hgb, hgB, hnc, _⟩ := HR1.out.lies (by omega)
  subst hpv
  have HST : Hid (DRel p xs w base g n c i0 (i0 + 1) w1) := by
   refine ⟨HB1.out.mono HBB.out, xs, HR1.out, ?_, rfl⟩
   rw [filt_take hi0, hpi, if_pos rfl, List.append_nil, List.filter_eq_self.2]
   intro x hx
   obtain ⟨j, hj, rfl⟩ := List.mem_iff_getElem.1 hx
   rw [List.length_take] at hj
   rw [List.getElem_take, hbe j (by omega) (by omega)]
   rfl
  have HGB : Hid (base ≤ g) := hgb
  have hne : ((i0 : Int) == -1) = false := by simp
  clear hgb hgB hbe hpi hi0 HR HR1 HB1
  go_wp2_with fail
  go_loopw [5, 6, 7] (fun vi vj _ wr => ∃ i j : Nat, vi = .int .i64 i ∧ vj = .int .i64 j ∧ j ≤ n ∧ i < j ∧ Hid (DRel p xs w base g n c i j wr)) (fun _ vj _ _ => n - (intOf vj).toNat)
  case atStart => exact ⟨i0, i0 + 1, rfl, by go_num, by omega, by omega, HST⟩
  case round =>
   obtain ⟨i, j, rfl, rfl, hjn, hij, HK⟩ := hrel
   clear HST
   obtain ⟨hbw, ys, hown, htk, hdr⟩ := HK.out
   have hyl : ys.length = n := by obtain ⟨p', c', e1⟩ := hown.form; exact (Value.slice.inj e1).2.1.symm
   have HOW := Lib.hid hown
   have HBW := Lib.hid hbw
   have HTK := Lib.hid htk
   have HDR := Lib.hid hdr
   have HYL := Lib.hid hyl
   clear hown hbw htk hdr hyl HK
   by_cases hlt : j < n
   ·have hltI : (j : Int) < (n : Int) := by omega
    have hjx : j < xs.length := by rw [HL.out]; exact hlt
    have hjy : j < ys.length := by rw [HYL.out]; exact hlt
    obtain ⟨b, o, e1, hbl, hcs⟩ := HOW.out.row.at_ j hjy
    cases e1
    have HDX : Hid (ys[j] = xs[j]) := drop_at HDR.out hjx hjy
    rw [HDX.out] at hcs
    have HFT := Lib.hid (filt_take (p := p) hjx)
    have hinI : (i : Int) < (n : Int) := by omega
    obtain ⟨x, hx⟩ : ∃ x, xs[j] = x := ⟨_, rfl⟩
    have HX := Lib.hid hx
    rw [hx] at hcs HFT HDX
    clear hx
    have hcs : ∀ t, t < 8 → wr.cell? ⟨g, j * 8 + t, none⟩ = (Itm.cells x)[t]? := fun t ht => by have := hcs t ht; rwa [Nat.zero_add] at this
    have c0 : wr.cell? ⟨g, j * 8, none⟩ = some (.int .i64 x.s) := hcs 0 (by decide)
    have c1 : wr.cell? ⟨g, j * 8 + 1, none⟩ = some (.int .i64 x.n) := hcs 1 (by decide)
    have c2 : wr.cell? ⟨g, j * 8 + 2, none⟩ = some (.int .i64 x.b) := hcs 2 (by decide)
    have c3 : wr.cell? ⟨g, j * 8 + 3, none⟩ = some (.int .i64 x.c) := hcs 3 (by decide)
    have c4 : wr.cell? ⟨g, j * 8 + 4, none⟩ = some (.int .i64 x.a) := hcs 4 (by decide)
    have c5 : wr.cell? ⟨g, j * 8 + 5, none⟩ = some (.int .i64 x.r) := hcs 5 (by decide)
    have c6 : wr.cell? ⟨g, j * 8 + 6, none⟩ = some (.int .i64 x.t) := hcs 6 (by decide)
    have c7 : wr.cell? ⟨g, j * 8 + 7, none⟩ = some (.int .i64 x.y) := hcs 7 (by decide)
    have HBA : Hid (Below base w (wr.alloc (.cells #[.int .i64 x.s, .int .i64 x.n, .int .i64 x.b, .int .i64 x.c, .int .i64 x.a, .int .i64 x.r, .int .i64 x.t, .int .i64 x.y] 54))) := HBW.out.trans ((oneB wr _).mono (Nat.le_trans HBB.out HBW.out.size))
    have HD := Lib.hid (HPP.out _ HBA.out x)
    have HBX := Lib.hid (Blk.new wr #[.int .i64 x.s, .int .i64 x.n, .int .i64 x.b, .int .i64 x.c, .int .i64 x.a, .int .i64 x.r, .int .i64 x.t, .int .i64 x.y] 54)
    have HOA := Lib.hid (HOW.out.later (oneB wr (.cells #[.int .i64 x.s, .int .i64 x.n, .int .i64 x.b, .int .i64 x.c, .int .i64 x.a, .int .i64 x.r, .int .i64 x.t, .int .i64 x.y] 54)))
    unfold Itm.v at HD
    obtain ⟨px, hpx⟩ : ∃ px, p x = px := ⟨_, rfl⟩
    rw [hpx] at HD HFT
    clear hcs hpx
    cases px
    ·have HFS : Hid ((xs.take (j + 1)).filter (fun x => !p x) = (xs.take j).filter (fun x => !p x) ++ [x]) := HFT.out
     clear HFT
     go_wp2_with fail
     generalize wr.alloc (.cells #[.int .i64 x.s, .int .i64 x.n, .int .i64 x.b, .int .i64 x.c, .int .i64 x.a, .int .i64 x.r, .int .i64 x.t, .int .i64 x.y] 54) = W1 at *
     generalize wr.heap.size = gx at *
     refine HD.out.mono ?_
     rintro y w2 ⟨rfl, hb2⟩
     have HB2 := Lib.hid (HBA.out.trans (hb2.mono (Nat.le_trans HBB.out HBA.out.size)))
     have HX2 := kbq HBX hb2
     have HO2 := Lib.hid (HOA.out.later hb2)
     clear hb2 HD HBA HBX HOA c0 c1 c2 c3 c4 c5 c6 c7
     have d0 : w2.cell? ⟨gx, 0, none⟩ = some (.int .i64 x.s) := HX2.out.cell 0
     have d1 : w2.cell? ⟨gx, 1, none⟩ = some (.int .i64 x.n) := HX2.out.cell 1
     have d2 : w2.cell? ⟨gx, 2, none⟩ = some (.int .i64 x.b) := HX2.out.cell 2
     have d3 : w2.cell? ⟨gx, 3, none⟩ = some (.int .i64 x.c) := HX2.out.cell 3
     have d4 : w2.cell? ⟨gx, 4, none⟩ = some (.int .i64 x.a) := HX2.out.cell 4
     have d5 : w2.cell? ⟨gx, 5, none⟩ = some (.int .i64 x.r) := HX2.out.cell 5
     have d6 : w2.cell? ⟨gx, 6, none⟩ = some (.int .i64 x.t) := HX2.out.cell 6
     have d7 : w2.cell? ⟨gx, 7, none⟩ = some (.int .i64 x.y) := HX2.out.cell 7
     have HTH := Lib.hid (HO2.out.there i 8 (by show i * 8 + 8 ≤ c * 8; omega) (by omega))
     have HINF : Hid ((Try.prog.info? 54).map (·.size) = some (#[.int .i64 x.s, .int .i64 x.n, .int .i64 x.b, .int .i64 x.c, .int .i64 x.a, .int .i64 x.r, .int .i64 x.t, .int .i64 x.y] : Array Value).size) := by
      obtain ⟨ii, _, hi, _, hs, _⟩ := eltI
      show _ = _
      rw [hi]
      show some ii.size = some 8
      rw [hs]
     have HN : Hid (DRel p xs w base g n c (i + 1) (j + 1) (w2.setCells g (i * 8) (#[.int .i64 x.s, .int .i64 x.n, .int .i64 x.b, .int .i64 x.c, .int .i64 x.a, .int .i64 x.r, .int .i64 x.t, .int .i64 x.y] : Array Value).toList)) := by
      refine ⟨below_put HGB.out _ _ _ _ HB2.out, ys.set i x, HO2.out.put i (by omega) x, ?_, ?_⟩
      ·rw [HFS.out, ← HTK.out, List.take_succ_eq_append_getElem (by rw [List.length_set, HYL.out]; omega), List.getElem_set_self]
       congr 1
       rw [List.take_set]
       exact List.set_eq_of_length_le (by rw [List.length_take]; omega)
      ·rw [List.drop_set_of_lt (by omega)]
       exact drop_succ HDR.out
     clear HB2 HO2 HX2
     go_wp2_with (with_reducible refine stop_storeT 54 (.tmp 33) (.tmp 32) rfl ?_)
     refine wpList_store_mid rfl 54 (.tmp 33) (.tmp 32) rfl g (i * 8) #[.int .i64 x.s, .int .i64 x.n, .int .i64 x.b, .int .i64 x.c, .int .i64 x.a, .int .i64 x.r, .int .i64 x.t, .int .i64 x.y] rfl rfl HTH.out HINF.out (all_oneCell_toArray (encI.one x)) ?_
     clear HTH HINF d0 d1 d2 d3 d4 d5 d6 d7
     generalize World.setCells w2 g (i * 8) _ = W3 at *
     go_wp2_with fail
     go_roundw
     case rel => exact ⟨i + 1, j + 1, by go_num, by go_num, by omega, by omega, HN⟩
     case measure => simp [intOf]; omega
    ·have HFS : Hid ((xs.take (j + 1)).filter (fun x => !p x) = (xs.take j).filter (fun x => !p x)) := by
      show _ = _
      rw [HFT.out, if_pos rfl, List.append_nil]
     clear HFT
     go_wp2_with fail
     generalize wr.alloc (.cells #[.int .i64 x.s, .int .i64 x.n, .int .i64 x.b, .int .i64 x.c, .int .i64 x.a, .int .i64 x.r, .int .i64 x.t, .int .i64 x.y] 54) = W1 at *
     refine HD.out.mono ?_
     rintro y w2 ⟨rfl, hb2⟩
     have HN : Hid (DRel p xs w base g n c i (j + 1) w2) := ⟨HBA.out.trans (hb2.mono (Nat.le_trans HBB.out HBA.out.size)), ys, HOA.out.later hb2, by rw [HFS.out]; exact HTK.out, drop_succ HDR.out⟩
     clear hb2 HD HBA HBX HOA c0 c1 c2 c3 c4 c5 c6 c7
     go_wp2_with fail
     go_roundw
     case rel => exact ⟨i, j + 1, rfl, by go_num, by omega, by omega, HN⟩
     case measure => simp [intOf]; omega
   ·have hle : (n : Int) ≤ (j : Int) := by omega
    have hjeq : j = n := by omega
    have HFIN : Hid (∀ vs, OwnT encI (wr.setCells g (i * 8) vs) base 54 (.slice (some ⟨g, 0, none⟩) i c) (xs.filter (fun x => !p x)) ∧ Below base w (wr.setCells g (i * 8) vs)) := fun vs => ⟨by
     have h := HOW.out.cutAt i (by omega) (by omega) vs
     rw [HTK.out, hjeq, ← HL.out, List.take_length] at h
     exact h, below_put HGB.out _ _ _ _ HBW.out⟩
    have HTH := Lib.hid (HOW.out.there i ((n - i) * 8) (by show i * 8 + (n - i) * 8 ≤ c * 8; omega) (by omega))
    have g1 : (i : Int) ≤ (n : Int) := by omega
    have g2 : (n : Int) ≤ (c : Int) := by omega
    have g3 : ¬ c - i = 0 := by omega
    have g4 : (i : Int) ≤ (c : Int) := by omega
    clear HBW HOW HTK HDR hjeq
    go_wp2_with (with_reducible refine stop_clear (.tmp 38) 22 rfl ?_)
    refine wpList_clear_t rfl (.tmp 38) 22 rfl 54 zeroVI Try.underlying22 zeroVI_run zeroVI_one g (i * 8) _ _ ?hn rfl ?hc (fun vs => ?_)
    case hn => first | omega | (rw [HL.out]; omega)
    case hc => first | exact HTH.out | (rw [HL.out]; exact HTH.out)
    have HF2 := Lib.hid (HFIN.out vs)
    clear HFIN HTH
    generalize World.setCells wr g (i * 8) vs = W5 at *
    go_wp2_with fail
    go_ret
    exact ⟨_, rfl, HF2.out.1, HF2.out.2⟩
end Go.Proofs.Ytmhocihajobkkaa
namespace Go.Proofs.Ytmhocihajobkkaa
open Go.RowKit
set_option linter.unusedSimpArgs false
/-- What Free leaves out, beside what isn't agreed. -/
def outF (cur : Int) (x : Itm) : Bool := x.c != cur || x.y != 0
/-- What Locked leaves out, beside what isn't agreed. -/
def outL (cy : Int) (x : Itm) : Bool := x.y == 0 || x.y != cy
set_option linter.unusedSimpArgs false in
set_option maxHeartbeats 4000000 in
set_option maxRecDepth 100000 in
theorem outF_any (w : World) (x : Itm) (cur : Int) (bc : Nat) (hc : w.cell? ⟨bc, 0, none⟩ = some (.int .i64 cur)) :
  Calls Try.prog 26 #[x.v, .pointer (some ⟨bc, 0, none⟩)] w fun e w' => e = .returned (.bool (outF cur x)) ∧ Below w.heap.size w w' := by
 have HB := Lib.hid (oneB w (.cells #[.int .i64 x.s, .int .i64 x.n, .int .i64 x.b, .int .i64 x.c, .int .i64 x.a, .int .i64 x.r, .int .i64 x.t, .int .i64 x.y] 54))
 have hc2 := (HB.out.cell (p := ⟨bc, 0, none⟩) (World.block_lt_of_cell? w _ hc)).trans hc
 unfold outF
 clear hc
 unfold Itm.v
 by_cases h1 : x.c = cur
 ·have e1 : (x.c != cur) = false := by simpa using h1
  rw [e1]
  clear h1
  go_enter Try.func26, Try.ntmps26
  go_wp2_with fail
  go_ret
  exact ⟨retBo (by simp), HB.out⟩
 ·have e1 : (x.c != cur) = true := by simpa using h1
  rw [e1]
  clear h1
  go_enter Try.func26, Try.ntmps26
  go_wp2_with fail
  go_ret
  exact ⟨retBo (by simp), HB.out⟩
set_option linter.unusedSimpArgs false in
set_option maxHeartbeats 4000000 in
set_option maxRecDepth 100000 in
theorem dropF_any (w : World) (x : Itm) (cur : Int) (bf bc : Nat) (hf : w.cell? ⟨bf, 0, none⟩ = some (.func (.func 26) #[] #[.pointer (some ⟨bc, 0, none⟩)])) (hc : w.cell? ⟨bc, 0, none⟩ = some (.int .i64 cur)) :
  Calls Try.prog 41 #[x.v, .pointer (some ⟨bf, 0, none⟩)] w fun e w' => e = .returned (.bool (x.t != 3 || outF cur x)) ∧ Below w.heap.size w w' := by
 have HB := Lib.hid (oneB w (.cells #[.int .i64 x.s, .int .i64 x.n, .int .i64 x.b, .int .i64 x.c, .int .i64 x.a, .int .i64 x.r, .int .i64 x.t, .int .i64 x.y] 54))
 have hc2 := (HB.out.cell (p := ⟨bc, 0, none⟩) (World.block_lt_of_cell? w _ hc)).trans hc
 have hf2 := (HB.out.cell (p := ⟨bf, 0, none⟩) (World.block_lt_of_cell? w _ hf)).trans hf
 have HO := Lib.hid (outF_any _ x cur bc hc2)
 generalize outF cur x = ou at *
 clear hc hf hc2
 unfold Itm.v at *
 by_cases h : x.t = 3
 ·have e1 : (x.t != 3) = false := by simpa using h
  rw [e1]
  clear h
  go_enter Try.func41, Try.ntmps41
  go_wp2_with fail
  refine HO.out.mono ?_
  rintro y w1 ⟨rfl, hb⟩
  have HB2 := ktq HB hb
  clear hb HO
  go_wp2_with fail
  go_ret
  exact ⟨retBo (by simp), HB2.out⟩
 ·have e1 : (x.t != 3) = true := by simpa using h
  rw [e1]
  clear h HO
  go_enter Try.func41, Try.ntmps41
  go_wp2_with fail
  go_ret
  exact ⟨retBo (by simp), HB.out⟩
def keepF (cur : Int) (x : Itm) : Bool := !(x.t != 3 || outF cur x)
set_option linter.unusedSimpArgs false in
set_option maxHeartbeats 4000000 in
set_option maxRecDepth 100000 in
theorem agreedF_any (w : World) (me : Int) (pi po : Option Addr) (ni ci no co : Nat) (xs : List Itm) (cur : Int) (bc : Nat) (hr : TRow encI w (.slice pi ni ci) xs) (hc : w.cell? ⟨bc, 0, none⟩ = some (.int .i64 cur)) (hn : xs.length ≤ 2000) :
  Calls Try.prog 24 #[bookV me (.slice pi ni ci) (.slice po no co), (.func (.func 26) #[] #[.pointer (some ⟨bc, 0, none⟩)])] w fun e w' => ∃ v', e = .returned v' ∧ OwnT encI w' w.heap.size 54 v' (xs.filter (keepF cur)) ∧ Below w.heap.size w w' := by
 have hmf : ∀ (fn : Fn) (first cap : Array Value) (w : World), (Instr.makeFunc fn first cap).run Try.prog w = .ok (.func fn first cap) w := fun _ _ _ _ => rfl
 have hbc := World.block_lt_of_cell? w _ hc
 have hW0 : ∀ T, Below w.heap.size w ((w.alloc (.cells #[.int .i64 me, .slice pi ni ci, .slice po no co] 28)).alloc (.cells #[(.func (.func 26) #[] #[.pointer (some ⟨bc, 0, none⟩)])] T)) := fun T => (oneB w _).alloc (by simp) _
 have HCL := Lib.hid (fun T => cloneI_any _ (.slice pi ni ci) xs (hr.kept (hW0 T)) hn)
 have HK3 : Hid (∀ T, ((w.alloc (.cells #[.int .i64 me, .slice pi ni ci, .slice po no co] 28)).alloc (.cells #[(.func (.func 26) #[] #[.pointer (some ⟨bc, 0, none⟩)])] T)).cell? ⟨w.heap.size + 1, 0, none⟩ = some (.func (.func 26) #[] #[.pointer (some ⟨bc, 0, none⟩)]) ∧ ((w.alloc (.cells #[.int .i64 me, .slice pi ni ci, .slice po no co] 28)).alloc (.cells #[(.func (.func 26) #[] #[.pointer (some ⟨bc, 0, none⟩)])] T)).cell? ⟨bc, 0, none⟩ = some (.int .i64 cur)) := fun T => ⟨(Blk.new' _ _ _ (by simp)).cell 0, ((hW0 T).cell (p := ⟨bc, 0, none⟩) hbc).trans hc⟩
 have HW0 := Lib.hid hW0
 have HBC := Lib.hid hbc
 clear hr hc hW0 hbc
 unfold bookV
 go_enter Try.func24, Try.ntmps24
 go_wp2_with fail
 have HS0 : Hid (((w.alloc (.cells #[.int .i64 me, .slice pi ni ci, .slice po no co] 28)).alloc (.cells #[(.func (.func 26) #[] #[.pointer (some ⟨bc, 0, none⟩)])] 80)).heap.size = w.heap.size + 1 + 1) := by show _ = _; simp
 refine (HCL.out _).mono ?_
 rintro y w1 ⟨v1, rfl, ho1, hb1⟩
 have HB := Lib.hid ((HW0.out 80).trans (hb1.mono (HW0.out _).size))
 have HSAY : Hid (Says (fun x => x.t != 3 || outF cur x) (w.heap.size + 1 + 1) (w.heap.size + 1) w1) := fun W hb x => by
  have k := HK3.out 80
  have s := HS0.out
  have k1 := (hb.cell (p := ⟨w.heap.size + 1, 0, none⟩) (Nat.lt_succ_self _)).trans ((hb1.cell (p := ⟨w.heap.size + 1, 0, none⟩) (by rw [s]; exact Nat.lt_succ_self _)).trans k.1)
  have k2 := (hb.cell (p := ⟨bc, 0, none⟩) (Nat.lt_succ_of_lt (Nat.lt_succ_of_lt HBC.out))).trans ((hb1.cell (p := ⟨bc, 0, none⟩) (by rw [s]; exact Nat.lt_succ_of_lt (Nat.lt_succ_of_lt HBC.out))).trans k.2)
  exact dropF_any W x cur _ bc k1 k2
 have hsz : w.heap.size + 1 + 1 ≤ w1.heap.size := by rw [← HS0.out]; exact hb1.size
 rw [HS0.out] at ho1
 have HD := Lib.hid (delete_any w1 v1 xs (fun x => x.t != 3 || outF cur x) (w.heap.size + 1 + 1) (w.heap.size + 1) ho1 HSAY.out hsz hn)
 clear ho1 hb1 HCL HK3 HW0 HSAY
 go_wp2_with fail
 refine HD.out.mono ?_
 rintro y w2 ⟨v2, rfl, ho2, hb2⟩
 have HO2 : Hid (OwnT encI w2 (w.heap.size + 1 + 1) 54 v2 (xs.filter (keepF cur))) := ho2
 have HB2 := Lib.hid (HB.out.trans (hb2.mono (by omega)))
 clear hb2 HD ho2
 obtain ⟨p1, c1, hv1⟩ := HO2.out.form
 generalize (xs.filter (keepF cur)).length = n1 at hv1
 subst hv1
 go_wp2_with fail
 go_ret
 exact ⟨_, rfl, HO2.out.less (by omega), HB2.out⟩
set_option linter.unusedSimpArgs false in
set_option maxHeartbeats 4000000 in
set_option maxRecDepth 100000 in
theorem bfree_any (w : World) (me : Int) (pi po : Option Addr) (ni ci no co : Nat) (xs : List Itm) (cur : Int) (hr : TRow encI w (.slice pi ni ci) xs) (hn : xs.length ≤ 2000) :
  Calls Try.prog 15 #[bookV me (.slice pi ni ci) (.slice po no co), .int .i64 cur] w fun e w' => ∃ v', e = .returned v' ∧ OwnT encI w' w.heap.size 54 v' (xs.filter (keepF cur)) ∧ Below w.heap.size w w' := by
 have hmf : ∀ (fn : Fn) (first cap : Array Value) (w : World), (Instr.makeFunc fn first cap).run Try.prog w = .ok (.func fn first cap) w := fun _ _ _ _ => rfl
 have hW0 : Below w.heap.size w ((w.alloc (.cells #[.int .i64 me, .slice pi ni ci, .slice po no co] 28)).alloc (.cells #[.int .i64 cur] 3)) := (oneB w _).alloc (by simp) _
 have hbk : Blk ((w.alloc (.cells #[.int .i64 me, .slice pi ni ci, .slice po no co] 28)).alloc (.cells #[.int .i64 cur] 3)) w.heap.size #[.int .i64 me, .slice pi ni ci, .slice po no co] 28 := (Blk.new w _ _).alloc _
 have HA := Lib.hid (agreedF_any ((w.alloc (.cells #[.int .i64 me, .slice pi ni ci, .slice po no co] 28)).alloc (.cells #[.int .i64 cur] 3)) me pi po ni ci no co xs cur (w.heap.size + 1) (hr.kept hW0) ((Blk.new' _ _ _ (by simp)).cell 0) hn)
 have HB := Lib.hid hW0
 have HK := Lib.hid hbk
 clear hr hW0 hbk
 unfold bookV at *
 go_enter Try.func15, Try.ntmps15
 go_upto_region 1 with fail
 generalize ((w.alloc (.cells #[.int .i64 me, .slice pi ni ci, .slice po no co] 28)).alloc (.cells #[.int .i64 cur] 3)) = W at *
 have b0 : W.cell? ⟨w.heap.size, 0, none⟩ = some (.int .i64 me) := HK.out.cell 0
 have b1 : W.cell? ⟨w.heap.size, 1, none⟩ = some (.slice pi ni ci) := HK.out.cell 1
 have b2 : W.cell? ⟨w.heap.size, 2, none⟩ = some (.slice po no co) := HK.out.cell 2
 go_wp2_with fail
 clear b0 b1 b2
 refine HA.out.mono ?_
 rintro y w2 ⟨v2, rfl, ho2, hb2⟩
 have HO2 := Lib.hid (ho2.less HB.out.size)
 have HB2 := ktq HB hb2
 clear hb2 HA ho2
 obtain ⟨p1, c1, hv1⟩ := HO2.out.form
 generalize (xs.filter (keepF cur)).length = n1 at hv1
 subst hv1
 go_wp2_with fail
 go_ret
 exact ⟨_, rfl, HO2.out, HB2.out⟩
set_option linter.unusedSimpArgs false in
set_option maxHeartbeats 4000000 in
set_option maxRecDepth 100000 in
theorem outL_any (w : World) (x : Itm) (cur : Int) (bc : Nat) (hc : w.cell? ⟨bc, 0, none⟩ = some (.int .i64 cur)) :
  Calls Try.prog 25 #[x.v, .pointer (some ⟨bc, 0, none⟩)] w fun e w' => e = .returned (.bool (outL cur x)) ∧ Below w.heap.size w w' := by
 have HB := Lib.hid (oneB w (.cells #[.int .i64 x.s, .int .i64 x.n, .int .i64 x.b, .int .i64 x.c, .int .i64 x.a, .int .i64 x.r, .int .i64 x.t, .int .i64 x.y] 54))
 have hc2 := (HB.out.cell (p := ⟨bc, 0, none⟩) (World.block_lt_of_cell? w _ hc)).trans hc
 unfold outL
 clear hc
 unfold Itm.v
 by_cases h1 : x.y = 0
 ·have e1 : (x.y == 0) = true := by simpa using h1
  rw [e1]
  clear h1
  go_enter Try.func25, Try.ntmps25
  go_wp2_with fail
  go_ret
  exact ⟨retBo (by simp), HB.out⟩
 ·have e1 : (x.y == 0) = false := by simpa using h1
  rw [e1]
  clear h1
  go_enter Try.func25, Try.ntmps25
  go_wp2_with fail
  go_ret
  exact ⟨retBo (by simp), HB.out⟩
set_option linter.unusedSimpArgs false in
set_option maxHeartbeats 4000000 in
set_option maxRecDepth 100000 in
theorem dropL_any (w : World) (x : Itm) (cur : Int) (bf bc : Nat) (hf : w.cell? ⟨bf, 0, none⟩ = some (.func (.func 25) #[] #[.pointer (some ⟨bc, 0, none⟩)])) (hc : w.cell? ⟨bc, 0, none⟩ = some (.int .i64 cur)) :
  Calls Try.prog 41 #[x.v, .pointer (some ⟨bf, 0, none⟩)] w fun e w' => e = .returned (.bool (x.t != 3 || outL cur x)) ∧ Below w.heap.size w w' := by
 have HB := Lib.hid (oneB w (.cells #[.int .i64 x.s, .int .i64 x.n, .int .i64 x.b, .int .i64 x.c, .int .i64 x.a, .int .i64 x.r, .int .i64 x.t, .int .i64 x.y] 54))
 have hc2 := (HB.out.cell (p := ⟨bc, 0, none⟩) (World.block_lt_of_cell? w _ hc)).trans hc
 have hf2 := (HB.out.cell (p := ⟨bf, 0, none⟩) (World.block_lt_of_cell? w _ hf)).trans hf
 have HO := Lib.hid (outL_any _ x cur bc hc2)
 generalize outL cur x = ou at *
 clear hc hf hc2
 unfold Itm.v at *
 by_cases h : x.t = 3
 ·have e1 : (x.t != 3) = false := by simpa using h
  rw [e1]
  clear h
  go_enter Try.func41, Try.ntmps41
  go_wp2_with fail
  refine HO.out.mono ?_
  rintro y w1 ⟨rfl, hb⟩
  have HB2 := ktq HB hb
  clear hb HO
  go_wp2_with fail
  go_ret
  exact ⟨retBo (by simp), HB2.out⟩
 ·have e1 : (x.t != 3) = true := by simpa using h
  rw [e1]
  clear h HO
  go_enter Try.func41, Try.ntmps41
  go_wp2_with fail
  go_ret
  exact ⟨retBo (by simp), HB.out⟩
def keepL (cur : Int) (x : Itm) : Bool := !(x.t != 3 || outL cur x)
set_option linter.unusedSimpArgs false in
set_option maxHeartbeats 4000000 in
set_option maxRecDepth 100000 in
theorem agreedL_any (w : World) (me : Int) (pi po : Option Addr) (ni ci no co : Nat) (xs : List Itm) (cur : Int) (bc : Nat) (hr : TRow encI w (.slice pi ni ci) xs) (hc : w.cell? ⟨bc, 0, none⟩ = some (.int .i64 cur)) (hn : xs.length ≤ 2000) :
  Calls Try.prog 24 #[bookV me (.slice pi ni ci) (.slice po no co), (.func (.func 25) #[] #[.pointer (some ⟨bc, 0, none⟩)])] w fun e w' => ∃ v', e = .returned v' ∧ OwnT encI w' w.heap.size 54 v' (xs.filter (keepL cur)) ∧ Below w.heap.size w w' := by
 have hmf : ∀ (fn : Fn) (first cap : Array Value) (w : World), (Instr.makeFunc fn first cap).run Try.prog w = .ok (.func fn first cap) w := fun _ _ _ _ => rfl
 have hbc := World.block_lt_of_cell? w _ hc
 have hW0 : ∀ T, Below w.heap.size w ((w.alloc (.cells #[.int .i64 me, .slice pi ni ci, .slice po no co] 28)).alloc (.cells #[(.func (.func 25) #[] #[.pointer (some ⟨bc, 0, none⟩)])] T)) := fun T => (oneB w _).alloc (by simp) _
 have HCL := Lib.hid (fun T => cloneI_any _ (.slice pi ni ci) xs (hr.kept (hW0 T)) hn)
 have HK3 : Hid (∀ T, ((w.alloc (.cells #[.int .i64 me, .slice pi ni ci, .slice po no co] 28)).alloc (.cells #[(.func (.func 25) #[] #[.pointer (some ⟨bc, 0, none⟩)])] T)).cell? ⟨w.heap.size + 1, 0, none⟩ = some (.func (.func 25) #[] #[.pointer (some ⟨bc, 0, none⟩)]) ∧ ((w.alloc (.cells #[.int .i64 me, .slice pi ni ci, .slice po no co] 28)).alloc (.cells #[(.func (.func 25) #[] #[.pointer (some ⟨bc, 0, none⟩)])] T)).cell? ⟨bc, 0, none⟩ = some (.int .i64 cur)) := fun T => ⟨(Blk.new' _ _ _ (by simp)).cell 0, ((hW0 T).cell (p := ⟨bc, 0, none⟩) hbc).trans hc⟩
 have HW0 := Lib.hid hW0
 have HBC := Lib.hid hbc
 clear hr hc hW0 hbc
 unfold bookV
 go_enter Try.func24, Try.ntmps24
 go_wp2_with fail
 have HS0 : Hid (((w.alloc (.cells #[.int .i64 me, .slice pi ni ci, .slice po no co] 28)).alloc (.cells #[(.func (.func 25) #[] #[.pointer (some ⟨bc, 0, none⟩)])] 80)).heap.size = w.heap.size + 1 + 1) := by show _ = _; simp
 refine (HCL.out _).mono ?_
 rintro y w1 ⟨v1, rfl, ho1, hb1⟩
 have HB := Lib.hid ((HW0.out 80).trans (hb1.mono (HW0.out _).size))
 have HSAY : Hid (Says (fun x => x.t != 3 || outL cur x) (w.heap.size + 1 + 1) (w.heap.size + 1) w1) := fun W hb x => by
  have k := HK3.out 80
  have s := HS0.out
  have k1 := (hb.cell (p := ⟨w.heap.size + 1, 0, none⟩) (Nat.lt_succ_self _)).trans ((hb1.cell (p := ⟨w.heap.size + 1, 0, none⟩) (by rw [s]; exact Nat.lt_succ_self _)).trans k.1)
  have k2 := (hb.cell (p := ⟨bc, 0, none⟩) (Nat.lt_succ_of_lt (Nat.lt_succ_of_lt HBC.out))).trans ((hb1.cell (p := ⟨bc, 0, none⟩) (by rw [s]; exact Nat.lt_succ_of_lt (Nat.lt_succ_of_lt HBC.out))).trans k.2)
  exact dropL_any W x cur _ bc k1 k2
 have hsz : w.heap.size + 1 + 1 ≤ w1.heap.size := by rw [← HS0.out]; exact hb1.size
 rw [HS0.out] at ho1
 have HD := Lib.hid (delete_any w1 v1 xs (fun x => x.t != 3 || outL cur x) (w.heap.size + 1 + 1) (w.heap.size + 1) ho1 HSAY.out hsz hn)
 clear ho1 hb1 HCL HK3 HW0 HSAY
 go_wp2_with fail
 refine HD.out.mono ?_
 rintro y w2 ⟨v2, rfl, ho2, hb2⟩
 have HO2 : Hid (OwnT encI w2 (w.heap.size + 1 + 1) 54 v2 (xs.filter (keepL cur))) := ho2
 have HB2 := Lib.hid (HB.out.trans (hb2.mono (by omega)))
 clear hb2 HD ho2
 obtain ⟨p1, c1, hv1⟩ := HO2.out.form
 generalize (xs.filter (keepL cur)).length = n1 at hv1
 subst hv1
 go_wp2_with fail
 go_ret
 exact ⟨_, rfl, HO2.out.less (by omega), HB2.out⟩
set_option linter.unusedSimpArgs false in
set_option maxHeartbeats 4000000 in
set_option maxRecDepth 100000 in
theorem blocked_any (w : World) (me : Int) (pi po : Option Addr) (ni ci no co : Nat) (xs : List Itm) (cur : Int) (hr : TRow encI w (.slice pi ni ci) xs) (hn : xs.length ≤ 2000) :
  Calls Try.prog 14 #[bookV me (.slice pi ni ci) (.slice po no co), .int .i64 cur] w fun e w' => ∃ v', e = .returned v' ∧ OwnT encI w' w.heap.size 54 v' (xs.filter (keepL cur)) ∧ Below w.heap.size w w' := by
 have hmf : ∀ (fn : Fn) (first cap : Array Value) (w : World), (Instr.makeFunc fn first cap).run Try.prog w = .ok (.func fn first cap) w := fun _ _ _ _ => rfl
 have hW0 : Below w.heap.size w ((w.alloc (.cells #[.int .i64 me, .slice pi ni ci, .slice po no co] 28)).alloc (.cells #[.int .i64 cur] 3)) := (oneB w _).alloc (by simp) _
 have hbk : Blk ((w.alloc (.cells #[.int .i64 me, .slice pi ni ci, .slice po no co] 28)).alloc (.cells #[.int .i64 cur] 3)) w.heap.size #[.int .i64 me, .slice pi ni ci, .slice po no co] 28 := (Blk.new w _ _).alloc _
 have HA := Lib.hid (agreedL_any ((w.alloc (.cells #[.int .i64 me, .slice pi ni ci, .slice po no co] 28)).alloc (.cells #[.int .i64 cur] 3)) me pi po ni ci no co xs cur (w.heap.size + 1) (hr.kept hW0) ((Blk.new' _ _ _ (by simp)).cell 0) hn)
 have HB := Lib.hid hW0
 have HK := Lib.hid hbk
 clear hr hW0 hbk
 unfold bookV at *
 go_enter Try.func14, Try.ntmps14
 go_upto_region 1 with fail
 generalize ((w.alloc (.cells #[.int .i64 me, .slice pi ni ci, .slice po no co] 28)).alloc (.cells #[.int .i64 cur] 3)) = W at *
 have b0 : W.cell? ⟨w.heap.size, 0, none⟩ = some (.int .i64 me) := HK.out.cell 0
 have b1 : W.cell? ⟨w.heap.size, 1, none⟩ = some (.slice pi ni ci) := HK.out.cell 1
 have b2 : W.cell? ⟨w.heap.size, 2, none⟩ = some (.slice po no co) := HK.out.cell 2
 go_wp2_with fail
 clear b0 b1 b2
 refine HA.out.mono ?_
 rintro y w2 ⟨v2, rfl, ho2, hb2⟩
 have HO2 := Lib.hid (ho2.less HB.out.size)
 have HB2 := ktq HB hb2
 clear hb2 HA ho2
 obtain ⟨p1, c1, hv1⟩ := HO2.out.form
 generalize (xs.filter (keepL cur)).length = n1 at hv1
 subst hv1
 go_wp2_with fail
 go_ret
 exact ⟨_, rfl, HO2.out, HB2.out⟩
end Go.Proofs.Ytmhocihajobkkaa
namespace Go.Proofs.Ytmhocihajobkkaa
open Go.RowKit
set_option linter.unusedSimpArgs false
/-- An append onto the call's own slice of structs, where the order is open. -/
theorem step_append_tg {α : Type} {enc : Enc α} {P : Program} {w : World} {ops : Array Oper} {o : Oper} {a : Act} {K : Act → World → Prop} {Q : Exit → Act → World → Prop} {E : Prop} (hgd : o.guard = none) (s x : Operand) (t : TypeId)
  (ho : o.op = .call { callee := .builtin .append, args := #[s, x], argTypes := #[t, t] })
  (ty : TypeId) (z : Value) (bytes base : Nat) (he : EltT enc P t ty z bytes) (hzs : z.cells.size = enc.k) (v y : Value) (xs ys : List α) (hs : a.eval s = v) (hx : a.eval x = y) (hown : OwnT enc w base ty v xs) (hrow : TRow enc w y ys)
  (h63 : xs.length + ys.length ≤ 140737488355328) (hbytes : (xs.length + ys.length) * bytes ≤ 140737488355328) (hbase : base ≤ w.heap.size) (L : List α) (N : Nat) (hL : xs ++ ys = L) (hN : L.length = N)
  (h : ∀ p' c' w', OwnT enc w' base ty (.slice p' N c') L → w.grownBy w' v.ownBlock → ((Value.slice p' N c').ownBlock = v.ownBlock ∨ (Value.slice p' N c').ownBlock = some w.heap.size) → Below base w w' → K (a.put o.dst (.slice p' N c')) w') :
  if Region.wanted o (yielded ops a.tmps) = true then Oper.wp P o a w K Q else E := by
 subst hL
 subst hN
 have hw : Region.wanted o (yielded ops a.tmps) = true := by simp [Region.wanted, hgd]
 rw [if_pos hw]
 obtain ⟨v', w', hrun, h1, h2, h3⟩ := run_append_tb w t o.type ty z bytes base he hzs v y xs ys hown hrow h63 hbytes hbase
 unfold Oper.wp
 obtain ⟨p', c', rfl⟩ := h1.form
 simp [execOp, ho, resolve, invoke, builtin, hs, hx, hrun, Result.andThen]
 have key := h p' c' w' h1 h2 h3 ((Below.refl _ _).grown h2 hbase (fun g hg' => hown.block_ge g hg'))
 rw [List.length_append] at key
 exact key
end Go.Proofs.Ytmhocihajobkkaa
