/- slices.IndexFunc, DeleteFunc, Clone over lines by contract; cycle.Mine. -/
import Derived.Test.YteofblabimneiaaCycFits
import Derived.Test.YteofblabimneiaaTRow2
import Derived.Lib.SliceRun
namespace Go.Proofs.Yteofblabimneiaa
open Go.RowKit
def zeroVNc : Value := .agg #[.int .i64 0, .int .i64 0, .int .i64 0, .int .i64 0]
theorem eltNc : EltT encN Try.prog 22 45 zeroVNc 32 := eltT_mk Try.underlying22 (by kernel_rfl)
/-- The closure that book.agreed hands over says p, in every world that leaves what lies below base. -/
def SaysN (p : Lin → Bool) (base bf : Nat) (w : World) : Prop := ∀ W, Below base w W → ∀ x : Lin, Calls Try.prog 32 #[x.v, .pointer (some ⟨bf, 0, none⟩)] W fun e w' => e = .returned (.bool (p x)) ∧ Below W.heap.size W w'
def IdxRN (p : Lin → Bool) (xs : List Lin) (r : Int) : Prop := (r = -1 ∧ ∀ x ∈ xs, p x = false) ∨ ∃ i : Nat, r = i ∧ ∃ hi : i < xs.length, p xs[i] = true ∧ ∀ j (hj : j < xs.length), j < i → p xs[j] = false
set_option linter.unusedSimpArgs false in
set_option maxHeartbeats 4000000 in
set_option maxRecDepth 100000 in
theorem idx_anyN (w : World) (v : Value) (xs : List Lin) (p : Lin → Bool) (base bf : Nat) (hr : TRow encN w v xs) (hP : SaysN p base bf w) (hb : base ≤ w.heap.size) (hn : xs.length ≤ 2000) :
    Calls Try.prog 40 #[v, (.func (.func 32) #[] #[.pointer (some ⟨bf, 0, none⟩)])] w fun e w' => ∃ r, e = .returned (.int .i64 r) ∧ IdxRN p xs r ∧ Below w.heap.size w w' := by
  obtain ⟨pv, c, rfl⟩ := hr.shape
  have HR := Lib.hid hr
  have HPP := Lib.hid hP
  have HBB := Lib.hid hb
  clear hr hP hb
  generalize hl : xs.length = n at *
  have HL := Lib.hid hl
  clear hl
  go_enter Try.func40, Try.ntmps40
  go_wp2_with fail
  go_loopw [5, 8] (fun _ i wr => ∃ k : Nat, k ≤ n ∧ i = .int .i64 k ∧ Hid (Below w.heap.size w wr ∧ ∀ j (hj : j < xs.length), j < k → p xs[j] = false)) (fun _ i _ => n - (intOf i).toNat)
  case atStart => exact ⟨0, by omega, rfl, ⟨Below.refl _ _, fun j hj h => by omega⟩⟩
  case round =>
    obtain ⟨k, hk, rfl, HB⟩ := hrel
    by_cases hlt : k < n
    · have hkl : k < xs.length := by rw [HL.out]; exact hlt
      have hltI : (k : Int) < (n : Int) := by omega
      obtain ⟨b, o, rfl, hbl, hcs⟩ := (HR.out.kept HB.out.1).at_ k hkl
      obtain ⟨x, hx⟩ : ∃ x, xs[k] = x := ⟨_, rfl⟩
      have HX := Lib.hid hx
      rw [hx] at hcs
      clear hx
      have c0 : wr.cell? ⟨b, o + k * 4, none⟩ = some (.int .i64 x.s) := hcs 0 (by decide)
      have c1 : wr.cell? ⟨b, o + k * 4 + 1, none⟩ = some (.int .i64 x.n) := hcs 1 (by decide)
      have c2 : wr.cell? ⟨b, o + k * 4 + 2, none⟩ = some (.int .i64 x.b) := hcs 2 (by decide)
      have c3 : wr.cell? ⟨b, o + k * 4 + 3, none⟩ = some (.int .i64 x.a) := hcs 3 (by decide)
      have HD := Lib.hid (HPP.out wr (HB.out.1.mono HBB.out) x)
      unfold Lin.v at HD
      obtain ⟨px, hpx⟩ : ∃ px, p x = px := ⟨_, rfl⟩
      rw [hpx] at HD
      have HPX := Lib.hid hpx
      clear hcs hpx
      cases px
      · go_wp2_with fail
        refine HD.out.mono ?_
        rintro y w1 ⟨rfl, hb⟩
        have HN : Hid (Below w.heap.size w w1 ∧ ∀ j (hj : j < xs.length), j < k + 1 → p xs[j] = false) := ⟨HB.out.1.trans (hb.mono HB.out.1.size), fun j hj h => by
          by_cases e : j = k
          · subst e; rw [HX.out]; exact HPX.out
          · exact HB.out.2 j hj (by omega)⟩
        clear hb c0 c1 c2 c3 HD
        go_wp2_with fail
        go_roundw
        case rel => exact ⟨k + 1, by omega, by go_num, HN⟩
        case measure => simp [intOf]; omega
      · go_wp2_with fail
        refine HD.out.mono ?_
        rintro y w1 ⟨rfl, hb⟩
        have HN := Lib.hid (HB.out.1.trans (hb.mono HB.out.1.size))
        clear hb c0 c1 c2 c3 HD
        go_wp2_with fail
        go_ret
        exact ⟨_, rfl, .inr ⟨k, rfl, hkl, by rw [HX.out]; exact HPX.out, fun j hj h => HB.out.2 j hj h⟩, HN.out⟩
    · have hle : (n : Int) ≤ (k : Int) := by omega
      go_wp2_with fail
      go_ret
      exact ⟨_, rfl, .inl ⟨rfl, fun x hx => by
        obtain ⟨j, hj, rfl⟩ := List.mem_iff_getElem.1 hx
        exact HB.out.2 j hj (by have := HL.out; omega)⟩, HB.out.1⟩
theorem zeroVNc_run (w : World) : (zeroValue 45).run Try.prog w = .ok zeroVNc w := by
  obtain ⟨i, _, hi, hz, _⟩ := eltNc
  simp [zeroValue, typeInfo, hi, hz]
theorem zeroVNc_one : ∀ v ∈ zeroVNc.cells, v.oneCell' = true := by intro v hv; simp [zeroVNc, Value.cells] at hv; subst hv; rfl
/-- Where the deleting stands: i are kept, j looked at. -/
def DRelN (p : Lin → Bool) (xs : List Lin) (w : World) (base g n c i j : Nat) (wr : World) : Prop := Below base w wr ∧ ∃ ys : List Lin, OwnT encN wr base 45 (.slice (some ⟨g, 0, none⟩) n c) ys ∧ ys.take i = (xs.take j).filter (fun x => !p x) ∧ ys.drop j = xs.drop j
theorem filt_takeN {p : Lin → Bool} {xs : List Lin} {j : Nat} (hj : j < xs.length) : (xs.take (j + 1)).filter (fun x => !p x) = (xs.take j).filter (fun x => !p x) ++ (if p xs[j] then [] else [xs[j]]) := by
  rw [List.take_succ_eq_append_getElem hj, List.filter_append]
  congr 1
  cases h : p xs[j] <;> simp [h]
theorem drop_atN {ys xs : List Lin} {j : Nat} (h : ys.drop j = xs.drop j) (hj : j < xs.length) (hy : j < ys.length) : ys[j] = xs[j] := by
  have h1 := congrArg (fun l => l[0]?) h
  simp only [List.getElem?_drop, Nat.add_zero] at h1
  rw [List.getElem?_eq_getElem hj, List.getElem?_eq_getElem hy] at h1
  exact Option.some.inj h1
theorem drop_succN {ys xs : List Lin} {j : Nat} (h : ys.drop j = xs.drop j) : ys.drop (j + 1) = xs.drop (j + 1) := by
  have h1 := congrArg (List.drop 1) h
  rwa [List.drop_drop, List.drop_drop] at h1
set_option linter.unusedSimpArgs false in
set_option maxHeartbeats 4000000 in
set_option maxRecDepth 100000 in
theorem delete_anyN (w : World) (v : Value) (xs : List Lin) (p : Lin → Bool) (base bf : Nat) (hr : OwnT encN w base 45 v xs) (hP : SaysN p base bf w) (hb : base ≤ w.heap.size) (hn : xs.length ≤ 2000) :
    Calls Try.prog 30 #[v, (.func (.func 32) #[] #[.pointer (some ⟨bf, 0, none⟩)])] w fun e w' => ∃ v', e = .returned v' ∧ OwnT encN w' base 45 v' (xs.filter (fun x => !p x)) ∧ Below base w w' := by
  have HI := Lib.hid (idx_anyN w v xs p base bf hr.row hP hb hn)
  obtain ⟨pv, c, rfl⟩ := hr.form
  have HR := Lib.hid hr
  have HPP := Lib.hid hP
  have HBB := Lib.hid hb
  clear hr hP hb
  generalize hl : xs.length = n at *
  have HL := Lib.hid hl
  clear hl
  go_enter Try.func30, Try.ntmps30
  go_wp2_with fail
  refine HI.out.mono ?_
  rintro y w1 ⟨r, rfl, hix, hb1⟩
  have HB1 := Lib.hid hb1
  have HR1 := Lib.hid (HR.out.later hb1)
  clear hb1 HI
  rcases hix with ⟨rfl, hall⟩ | ⟨i0, rfl, hi0, hpi, hbe⟩
  · have HF : Hid (xs.filter (fun x => !p x) = xs) := by show _ = _; rw [List.filter_eq_self]; intro x hx; rw [hall x hx]; rfl
    clear hall
    go_wp2_with fail
    go_ret
    exact ⟨_, rfl, by rw [HF.out]; exact HR1.out, HB1.out.mono HBB.out⟩
  · have hi0n : i0 < n := by rw [← HL.out]; exact hi0
    obtain ⟨g, cur, hpv, hgb, hgB, hnc, _⟩ := HR1.out.lies (by omega)
    subst hpv
    have HST : Hid (DRelN p xs w base g n c i0 (i0 + 1) w1) := by
      refine ⟨HB1.out.mono HBB.out, xs, HR1.out, ?_, rfl⟩
      rw [filt_takeN hi0, hpi, if_pos rfl, List.append_nil, List.filter_eq_self.2]
      intro x hx
      obtain ⟨j, hj, rfl⟩ := List.mem_iff_getElem.1 hx
      rw [List.length_take] at hj
      rw [List.getElem_take, hbe j (by omega) (by omega)]
      rfl
    have HGB : Hid (base ≤ g) := hgb
    have hne : ((i0 : Int) == -1) = false := by simp
    clear hgb hgB hbe hpi hi0 HR HR1 HB1
    go_wp2_with fail
    go_loopw [5, 6, 7] (fun vi vj _ wr => ∃ i j : Nat, vi = .int .i64 i ∧ vj = .int .i64 j ∧ j ≤ n ∧ i < j ∧ Hid (DRelN p xs w base g n c i j wr)) (fun _ vj _ _ => n - (intOf vj).toNat)
    case atStart => exact ⟨i0, i0 + 1, rfl, by go_num, by omega, by omega, HST⟩
    case round =>
      obtain ⟨i, j, rfl, rfl, hjn, hij, HK⟩ := hrel
      clear HST
      obtain ⟨hbw, ys, hown, htk, hdr⟩ := HK.out
      have hyl : ys.length = n := by obtain ⟨p', c', e1⟩ := hown.form; exact (Value.slice.inj e1).2.1.symm
      have HOW := Lib.hid hown
      have HBW := Lib.hid hbw
      have HTK := Lib.hid htk
      have HDR := Lib.hid hdr
      have HYL := Lib.hid hyl
      clear hown hbw htk hdr hyl HK
      by_cases hlt : j < n
      · have hltI : (j : Int) < (n : Int) := by omega
        have hjx : j < xs.length := by rw [HL.out]; exact hlt
        have hjy : j < ys.length := by rw [HYL.out]; exact hlt
        obtain ⟨b, o, e1, hbl, hcs⟩ := HOW.out.row.at_ j hjy
        cases e1
        have HDX : Hid (ys[j] = xs[j]) := drop_atN HDR.out hjx hjy
        rw [HDX.out] at hcs
        have HFT := Lib.hid (filt_takeN (p := p) hjx)
        have hinI : (i : Int) < (n : Int) := by omega
        obtain ⟨x, hx⟩ : ∃ x, xs[j] = x := ⟨_, rfl⟩
        have HX := Lib.hid hx
        rw [hx] at hcs HFT HDX
        clear hx
        have hcs : ∀ t, t < 4 → wr.cell? ⟨g, j * 4 + t, none⟩ = (Lin.cells x)[t]? := fun t ht => by have := hcs t ht; rwa [Nat.zero_add] at this
        have c0 : wr.cell? ⟨g, j * 4, none⟩ = some (.int .i64 x.s) := hcs 0 (by decide)
        have c1 : wr.cell? ⟨g, j * 4 + 1, none⟩ = some (.int .i64 x.n) := hcs 1 (by decide)
        have c2 : wr.cell? ⟨g, j * 4 + 2, none⟩ = some (.int .i64 x.b) := hcs 2 (by decide)
        have c3 : wr.cell? ⟨g, j * 4 + 3, none⟩ = some (.int .i64 x.a) := hcs 3 (by decide)
        have HBA : Hid (Below base w (wr.alloc (.cells #[.int .i64 x.s, .int .i64 x.n, .int .i64 x.b, .int .i64 x.a] 45))) := HBW.out.trans ((oneB wr _).mono (Nat.le_trans HBB.out HBW.out.size))
        have HD := Lib.hid (HPP.out _ HBA.out x)
        have HBX := Lib.hid (Blk.new wr #[.int .i64 x.s, .int .i64 x.n, .int .i64 x.b, .int .i64 x.a] 45)
        have HOA := Lib.hid (HOW.out.later (oneB wr (.cells #[.int .i64 x.s, .int .i64 x.n, .int .i64 x.b, .int .i64 x.a] 45)))
        unfold Lin.v at HD
        obtain ⟨px, hpx⟩ : ∃ px, p x = px := ⟨_, rfl⟩
        rw [hpx] at HD HFT
        clear hcs hpx
        cases px
        · have HFS : Hid ((xs.take (j + 1)).filter (fun x => !p x) = (xs.take j).filter (fun x => !p x) ++ [x]) := HFT.out
          clear HFT
          go_wp2_with fail
          generalize wr.alloc (.cells #[.int .i64 x.s, .int .i64 x.n, .int .i64 x.b, .int .i64 x.a] 45) = W1 at *
          generalize wr.heap.size = gx at *
          refine HD.out.mono ?_
          rintro y w2 ⟨rfl, hb2⟩
          have HB2 := Lib.hid (HBA.out.trans (hb2.mono (Nat.le_trans HBB.out HBA.out.size)))
          have HX2 := Lib.hid (HBX.out.below hb2 HBX.out.lt)
          have HO2 := Lib.hid (HOA.out.later hb2)
          clear hb2 HD HBA HBX HOA c0 c1 c2 c3
          have d0 : w2.cell? ⟨gx, 0, none⟩ = some (.int .i64 x.s) := HX2.out.cell 0
          have d1 : w2.cell? ⟨gx, 1, none⟩ = some (.int .i64 x.n) := HX2.out.cell 1
          have d2 : w2.cell? ⟨gx, 2, none⟩ = some (.int .i64 x.b) := HX2.out.cell 2
          have d3 : w2.cell? ⟨gx, 3, none⟩ = some (.int .i64 x.a) := HX2.out.cell 3
          have HTH := Lib.hid (HO2.out.there i 4 (by show i * 4 + 4 ≤ c * 4; omega) (by omega))
          have HINF : Hid ((Try.prog.info? 45).map (·.size) = some (#[.int .i64 x.s, .int .i64 x.n, .int .i64 x.b, .int .i64 x.a] : Array Value).size) := by
            obtain ⟨ii, _, hi, _, hs, _⟩ := eltNc
            show _ = _
            rw [hi]
            show some ii.size = some 4
            rw [hs]
            rfl
          have HN : Hid (DRelN p xs w base g n c (i + 1) (j + 1) (w2.setCells g (i * 4) (#[.int .i64 x.s, .int .i64 x.n, .int .i64 x.b, .int .i64 x.a] : Array Value).toList)) := by
            refine ⟨below_put HGB.out _ _ _ _ HB2.out, ys.set i x, HO2.out.put i (by omega) x, ?_, ?_⟩
            · rw [HFS.out, ← HTK.out, List.take_succ_eq_append_getElem (by rw [List.length_set, HYL.out]; omega), List.getElem_set_self]
              congr 1
              rw [List.take_set]
              exact List.set_eq_of_length_le (by rw [List.length_take]; omega)
            · rw [List.drop_set_of_lt (by omega)]
              exact drop_succN HDR.out
          clear HB2 HO2 HX2
          go_wp2_with (with_reducible refine stop_storeT 45 (.tmp 33) (.tmp 32) rfl ?_)
          refine wpList_store_mid rfl 45 (.tmp 33) (.tmp 32) rfl g (i * 4) #[.int .i64 x.s, .int .i64 x.n, .int .i64 x.b, .int .i64 x.a] rfl rfl HTH.out HINF.out (all_oneCell_toArray (encN.one x)) ?_
          clear HTH HINF d0 d1 d2 d3
          generalize World.setCells w2 g (i * 4) _ = W3 at *
          go_wp2_with fail
          go_roundw
          case rel => exact ⟨i + 1, j + 1, by go_num, by go_num, by omega, by omega, HN⟩
          case measure => simp [intOf]; omega
        · have HFS : Hid ((xs.take (j + 1)).filter (fun x => !p x) = (xs.take j).filter (fun x => !p x)) := by
            show _ = _
            rw [HFT.out, if_pos rfl, List.append_nil]
          clear HFT
          go_wp2_with fail
          generalize wr.alloc (.cells #[.int .i64 x.s, .int .i64 x.n, .int .i64 x.b, .int .i64 x.a] 45) = W1 at *
          refine HD.out.mono ?_
          rintro y w2 ⟨rfl, hb2⟩
          have HN : Hid (DRelN p xs w base g n c i (j + 1) w2) := ⟨HBA.out.trans (hb2.mono (Nat.le_trans HBB.out HBA.out.size)), ys, HOA.out.later hb2, by rw [HFS.out]; exact HTK.out, drop_succN HDR.out⟩
          clear hb2 HD HBA HBX HOA c0 c1 c2 c3
          go_wp2_with fail
          go_roundw
          case rel => exact ⟨i, j + 1, rfl, by go_num, by omega, by omega, HN⟩
          case measure => simp [intOf]; omega
      · have hle : (n : Int) ≤ (j : Int) := by omega
        have hjeq : j = n := by omega
        have HFIN : Hid (∀ vs, OwnT encN (wr.setCells g (i * 4) vs) base 45 (.slice (some ⟨g, 0, none⟩) i c) (xs.filter (fun x => !p x)) ∧ Below base w (wr.setCells g (i * 4) vs)) := fun vs => ⟨by
          have h := HOW.out.cutAt i (by omega) (by omega) vs
          rw [HTK.out, hjeq, ← HL.out, List.take_length] at h
          exact h, below_put HGB.out _ _ _ _ HBW.out⟩
        have HTH := Lib.hid (HOW.out.there i ((n - i) * 4) (by show i * 4 + (n - i) * 4 ≤ c * 4; omega) (by omega))
        have g1 : (i : Int) ≤ (n : Int) := by omega
        have g2 : (n : Int) ≤ (c : Int) := by omega
        have g3 : ¬ c - i = 0 := by omega
        have g4 : (i : Int) ≤ (c : Int) := by omega
        clear HBW HOW HTK HDR hjeq
        go_wp2_with (with_reducible refine stop_clear (.tmp 38) 22 rfl ?_)
        refine wpList_clear_t rfl (.tmp 38) 22 rfl 45 zeroVNc Try.underlying22 zeroVNc_run zeroVNc_one g (i * 4) _ _ ?hn rfl ?hc (fun vs => ?_)
        case hn => first | omega | (rw [HL.out]; omega)
        case hc => first | exact HTH.out | (rw [HL.out]; exact HTH.out)
        have HF2 := Lib.hid (HFIN.out vs)
        clear HFIN HTH
        generalize World.setCells wr g (i * 4) vs = W5 at *
        go_wp2_with fail
        go_ret
        exact ⟨_, rfl, HF2.out.1, HF2.out.2⟩
theorem madeTN (w : World) (base : Nat) (hb : base ≤ w.heap.size) : OwnT encN (w.alloc (.cells #[] 45)) base 45 (.slice (some ⟨w.heap.size, 0, none⟩) 0 0) [] := ⟨by simp, .inr ⟨w.heap.size, 0, #[], rfl, hb, heap_alloc_new w _, Nat.le_refl _, by decide, by simp, by simp⟩⟩
theorem stop_appendIN {P : Program} {ops : Array Oper} {rest : List Oper} {o : Oper} {a : Act} {w : World} {Q : Exit → Act → World → Prop} (s x : Operand) (t : TypeId)
    (_ : o.op = .call { callee := .builtin .append, args := #[s, x], argTypes := #[t, t] }) (h : Hid (wpList P ops Q (o :: rest) a w)) : wpList P ops Q (o :: rest) a w := h
set_option linter.unusedSimpArgs false in
set_option maxHeartbeats 4000000 in
set_option maxRecDepth 100000 in
theorem cloneNc_any (w : World) (v : Value) (xs : List Lin) (hr : TRow encN w v xs) (hn : xs.length ≤ 2000) :
    Calls Try.prog 31 #[v] w fun e w' => ∃ v', e = .returned v' ∧ OwnT encN w' w.heap.size 45 v' xs ∧ Below w.heap.size w w' := by
  obtain ⟨p, c, rfl⟩ := hr.shape
  cases p with
  | none =>
    have hx : xs = [] := by
      obtain ⟨p', c', e1, _, h⟩ := hr
      cases e1
      rcases h with h | ⟨b, o, h, _⟩
      · exact h
      · cases h
    subst hx
    clear hr
    have kq := Lib.run_eql_slice_nil (P := Try.prog) w 22 45 none 0 c 0 0 Try.underlying22
    simp only [List.length_nil]
    go_enter Try.func31, Try.ntmps31
    go_wp2
    go_ret
    exact ⟨_, rfl, OwnT.nil_ _ _ _ _, Below.refl _ _⟩
  | some a =>
    have HR := Lib.hid hr
    have HM := Lib.hid (madeTN w w.heap.size (Nat.le_refl _))
    have HB := Lib.hid (oneB w (.cells #[] 45))
    clear hr
    generalize hl : xs.length = n at *
    have HL := Lib.hid hl
    clear hl
    have kq := Lib.run_eql_slice_nil (P := Try.prog) w 22 45 (some a) n c 0 0 Try.underlying22
    go_enter Try.func31, Try.ntmps31
    go_wp2_with (at_builtin; with_reducible refine stop_appendIN (.tmp 5) (.tmp 6) 22 rfl ?_)
    refine wpList_append_t rfl (.tmp 5) (.tmp 6) 22 rfl 45 zeroVNc 32 w.heap.size eltNc rfl (by decide) (.slice (some ⟨w.heap.size, 0, none⟩) 0 0) (.slice (some a) n c) [] xs rfl rfl HM.out (HR.out.kept HB.out) (by have := HL.out; simp; omega) HB.out.size xs n (List.nil_append _) HL.out ?_
    intro p' c' w' ho _ hb
    have HO := Lib.hid ho
    have HB2 := Lib.hid (HB.out.trans hb)
    clear ho hb
    go_wp2_with fail
    go_ret
    exact ⟨_, rfl, HO.out, HB2.out⟩
set_option linter.unusedSimpArgs false in
set_option maxHeartbeats 4000000 in
set_option maxRecDepth 100000 in
theorem notmine_any (w : World) (x : Lin) (me : Int) (bf : Nat) (hf : w.cell? ⟨bf, 0, none⟩ = some (.int .i64 me)) :
    Calls Try.prog 32 #[x.v, .pointer (some ⟨bf, 0, none⟩)] w fun e w' => e = .returned (.bool (!mineB me x)) ∧ Below w.heap.size w w' := by
  have HB := Lib.hid (oneB w (.cells #[.int .i64 x.s, .int .i64 x.n, .int .i64 x.b, .int .i64 x.a] 45))
  have hf2 := (HB.out.cell (p := ⟨bf, 0, none⟩) (World.block_lt_of_cell? w _ hf)).trans hf
  clear hf
  unfold Lin.v at *
  by_cases h1 : x.s = me
  · have e1 : (x.s != me) = false := by simpa using h1
    have HM : Hid ((!mineB me x) = false) := by show _ = _; unfold mineB; simp [h1]
    clear h1
    go_enter Try.func32, Try.ntmps32
    go_wp2_with fail
    go_ret
    exact ⟨by rw [HM.out]; rfl, HB.out⟩
  · have e1 : (x.s != me) = true := by simpa using h1
    have HM : Hid ((x.b != me) = (!mineB me x)) := by
      show _ = _
      unfold mineB
      rw [Bool.eq_iff_iff]
      simp [h1]
    clear h1
    go_enter Try.func32, Try.ntmps32
    go_wp2_with fail
    go_ret
    exact ⟨by rw [← HM.out]; rfl, HB.out⟩
set_option linter.unusedSimpArgs false in
set_option maxHeartbeats 4000000 in
set_option maxRecDepth 100000 in
theorem mine_any (w : World) (me : Int) (v : Value) (xs : List Lin) (hr : TRow encN w v xs) (hn : xs.length ≤ 2000) :
    Calls Try.prog 18 #[.int .i64 me, v] w fun e w' => ∃ v', e = .returned v' ∧ OwnT encN w' w.heap.size 45 v' (mineL me xs) ∧ Below w.heap.size w w' := by
  obtain ⟨p, c, hv⟩ := hr.shape
  have HB := Lib.hid (oneB w (.cells #[.int .i64 me] 3))
  have HC := Lib.hid (cloneNc_any _ v xs (hr.kept HB.out) hn)
  have HBM := Lib.hid (Blk.new w #[.int .i64 me] 3)
  have hmf : ∀ (fn : Fn) (first cap : Array Value) (w : World), (Instr.makeFunc fn first cap).run Try.prog w = .ok (.func fn first cap) w := fun _ _ _ _ => rfl
  have HN := Lib.hid hn
  subst hv
  clear hr hn
  generalize hl : xs.length = n at *
  have HL := Lib.hid hl
  clear hl
  go_enter Try.func18, Try.ntmps18
  go_wp2_with fail
  have HZ : Hid ((w.alloc (.cells #[.int .i64 me] 3)).heap.size = w.heap.size + 1) := by show _ = _; simp
  generalize w.alloc (.cells #[.int .i64 me] 3) = W1 at *
  refine HC.out.mono ?_
  rintro y w1 ⟨v1, rfl, ho1, hb1⟩
  have HO1 : Hid (OwnT encN w1 (w.heap.size + 1) 45 v1 xs) := by have := ho1; rwa [HZ.out] at this
  have HB1 := Lib.hid (HB.out.trans (hb1.mono HB.out.size))
  have HM1 := Lib.hid (HBM.out.below hb1 HBM.out.lt)
  have HS1 : Hid (w.heap.size + 1 ≤ w1.heap.size) := by have := hb1.size; rw [HZ.out] at this; exact this
  clear ho1 hb1 HC
  have HSY : Hid (SaysN (fun x => !mineB me x) (w.heap.size + 1) w.heap.size w1) := fun W hW x => notmine_any W x me _ ((hW.cell (p := ⟨w.heap.size, 0, none⟩) (Nat.lt_succ_self _)).trans (HM1.out.cell 0))
  have HD := Lib.hid (delete_anyN w1 v1 xs (fun x => !mineB me x) (w.heap.size + 1) w.heap.size HO1.out HSY.out HS1.out (by rw [HL.out]; exact HN.out))
  obtain ⟨p1, c1, hv1⟩ := HO1.out.form
  rw [HL.out] at hv1
  subst hv1
  go_wp2_with fail
  refine HD.out.mono ?_
  rintro y w2 ⟨v2, rfl, ho2, hb2⟩
  have HF : Hid (xs.filter (fun x => !!mineB me x) = mineL me xs) := by show _ = _; unfold mineL; congr 1; funext x; simp
  have HO2 : Hid (OwnT encN w2 w.heap.size 45 v2 (mineL me xs)) := by have := ho2.less (show w.heap.size ≤ w.heap.size + 1 by omega); rw [HF.out] at this; exact this
  have HB2 := Lib.hid (HB1.out.trans (hb2.mono (Nat.le_succ _)))
  obtain ⟨p2, c2, hv2⟩ := HO2.out.form
  subst hv2
  clear ho2 hb2 HD HF
  generalize (mineL me xs).length = n2 at *
  go_wp2_with fail
  go_ret
  exact ⟨_, rfl, HO2.out, HB2.out⟩
end Go.Proofs.Yteofblabimneiaa
