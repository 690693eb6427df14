/- slices.IndexFunc, DeleteFunc over items by contract, whatever the predicate. -/
import Derived.Test.YtillckkohdjkbaaBookCl
import Derived.Test.YtillckkohdjkbaaTRow2
namespace Go.Proofs.Ytillckkohdjkbaa
open Go.RowKit
/-- The closure that book.agreed hands over says p, in every world that leaves what lies below base. -/
def Says (p : Itm → Bool) (base bf : Nat) (w : World) : Prop := ∀ W, Below base w W → ∀ x : Itm, Calls Try.prog 55 #[x.v, .pointer (some ⟨bf, 0, none⟩)] W fun e w' => e = .returned (.bool (p x)) ∧ Below W.heap.size W w'
def IdxR (p : Itm → Bool) (xs : List Itm) (r : Int) : Prop := (r = -1 ∧ ∀ x ∈ xs, p x = false) ∨ ∃ i : Nat, r = i ∧ ∃ hi : i < xs.length, p xs[i] = true ∧ ∀ j (hj : j < xs.length), j < i → p xs[j] = false
set_option linter.unusedSimpArgs false in
set_option maxHeartbeats 4000000 in
set_option maxRecDepth 100000 in
theorem idx_any (w : World) (v : Value) (xs : List Itm) (p : Itm → Bool) (base bf : Nat) (hr : TRow encI w v xs) (hP : Says p base bf w) (hb : base ≤ w.heap.size) (hn : xs.length ≤ 2000) :
    Calls Try.prog 58 #[v, (.func (.func 55) #[] #[.pointer (some ⟨bf, 0, none⟩)])] w fun e w' => ∃ r, e = .returned (.int .i64 r) ∧ IdxR p xs r ∧ Below w.heap.size w w' := by
  obtain ⟨pv, c, rfl⟩ := hr.shape
  have HR := Lib.hid hr
  have HPP := Lib.hid hP
  have HBB := Lib.hid hb
  clear hr hP hb
  generalize hl : xs.length = n at *
  have HL := Lib.hid hl
  clear hl
  go_enter Try.func58, Try.ntmps58
  go_wp2_with fail
  go_loopw [5, 8] (fun _ i wr => ∃ k : Nat, k ≤ n ∧ i = .int .i64 k ∧ Hid (Below w.heap.size w wr ∧ ∀ j (hj : j < xs.length), j < k → p xs[j] = false)) (fun _ i _ => n - (intOf i).toNat)
  case atStart => exact ⟨0, by omega, rfl, ⟨Below.refl _ _, fun j hj h => by omega⟩⟩
  case round =>
    obtain ⟨k, hk, rfl, HB⟩ := hrel
    by_cases hlt : k < n
    · have hkl : k < xs.length := by rw [HL.out]; exact hlt
      have hltI : (k : Int) < (n : Int) := by omega
      obtain ⟨b, o, rfl, hbl, hcs⟩ := (HR.out.kept HB.out.1).at_ k hkl
      obtain ⟨x, hx⟩ : ∃ x, xs[k] = x := ⟨_, rfl⟩
      have HX := Lib.hid hx
      rw [hx] at hcs
      clear hx
      have c0 : wr.cell? ⟨b, o + k * 8, none⟩ = some (.int .i64 x.s) := hcs 0 (by decide)
      have c1 : wr.cell? ⟨b, o + k * 8 + 1, none⟩ = some (.int .i64 x.n) := hcs 1 (by decide)
      have c2 : wr.cell? ⟨b, o + k * 8 + 2, none⟩ = some (.int .i64 x.b) := hcs 2 (by decide)
      have c3 : wr.cell? ⟨b, o + k * 8 + 3, none⟩ = some (.int .i64 x.c) := hcs 3 (by decide)
      have c4 : wr.cell? ⟨b, o + k * 8 + 4, none⟩ = some (.int .i64 x.a) := hcs 4 (by decide)
      have c5 : wr.cell? ⟨b, o + k * 8 + 5, none⟩ = some (.int .i64 x.r) := hcs 5 (by decide)
      have c6 : wr.cell? ⟨b, o + k * 8 + 6, none⟩ = some (.int .i64 x.t) := hcs 6 (by decide)
      have c7 : wr.cell? ⟨b, o + k * 8 + 7, none⟩ = some (.int .i64 x.y) := hcs 7 (by decide)
      have HD := Lib.hid (HPP.out wr (HB.out.1.mono HBB.out) x)
      unfold Itm.v at HD
      obtain ⟨px, hpx⟩ : ∃ px, p x = px := ⟨_, rfl⟩
      rw [hpx] at HD
      have HPX := Lib.hid hpx
      clear hcs hpx
      cases px
      · go_wp2_with fail
        refine HD.out.mono ?_
        rintro y w1 ⟨rfl, hb⟩
        have HN : Hid (Below w.heap.size w w1 ∧ ∀ j (hj : j < xs.length), j < k + 1 → p xs[j] = false) := ⟨HB.out.1.trans (hb.mono HB.out.1.size), fun j hj h => by
          by_cases e : j = k
          · subst e; rw [HX.out]; exact HPX.out
          · exact HB.out.2 j hj (by omega)⟩
        clear hb c0 c1 c2 c3 c4 c5 c6 c7 HD
        go_wp2_with fail
        go_roundw
        case rel => exact ⟨k + 1, by omega, by go_num, HN⟩
        case measure => simp [intOf]; omega
      · go_wp2_with fail
        refine HD.out.mono ?_
        rintro y w1 ⟨rfl, hb⟩
        have HN := Lib.hid (HB.out.1.trans (hb.mono HB.out.1.size))
        clear hb c0 c1 c2 c3 c4 c5 c6 c7 HD
        go_wp2_with fail
        go_ret
        exact ⟨_, rfl, .inr ⟨k, rfl, hkl, by rw [HX.out]; exact HPX.out, fun j hj h => HB.out.2 j hj h⟩, HN.out⟩
    · have hle : (n : Int) ≤ (k : Int) := by omega
      go_wp2_with fail
      go_ret
      exact ⟨_, rfl, .inl ⟨rfl, fun x hx => by
        obtain ⟨j, hj, rfl⟩ := List.mem_iff_getElem.1 hx
        exact HB.out.2 j hj (by have := HL.out; omega)⟩, HB.out.1⟩
theorem zeroVI_run (w : World) : (zeroValue 39).run Try.prog w = .ok zeroVI w := by
  obtain ⟨i, _, hi, hz, _⟩ := eltI
  simp [zeroValue, typeInfo, hi, hz]
theorem zeroVI_one : ∀ v ∈ zeroVI.cells, v.oneCell' = true := fun v hv => encI.one ⟨0, 0, 0, 0, 0, 0, 0, 0⟩ v (by simpa [zeroVI, Value.cells, Itm.cells] using hv)
/-- Where the deleting stands: i are kept, j looked at. -/
def DRel (p : Itm → Bool) (xs : List Itm) (w : World) (base g n c i j : Nat) (wr : World) : Prop := Below base w wr ∧ ∃ ys : List Itm, OwnT encI wr base 39 (.slice (some ⟨g, 0, none⟩) n c) ys ∧ ys.take i = (xs.take j).filter (fun x => !p x) ∧ ys.drop j = xs.drop j
theorem filt_take {p : Itm → Bool} {xs : List Itm} {j : Nat} (hj : j < xs.length) : (xs.take (j + 1)).filter (fun x => !p x) = (xs.take j).filter (fun x => !p x) ++ (if p xs[j] then [] else [xs[j]]) := by
  rw [List.take_succ_eq_append_getElem hj, List.filter_append]
  congr 1
  cases h : p xs[j] <;> simp [h]
theorem drop_at {ys xs : List Itm} {j : Nat} (h : ys.drop j = xs.drop j) (hj : j < xs.length) (hy : j < ys.length) : ys[j] = xs[j] := by
  have h1 := congrArg (fun l => l[0]?) h
  simp only [List.getElem?_drop, Nat.add_zero] at h1
  rw [List.getElem?_eq_getElem hj, List.getElem?_eq_getElem hy] at h1
  exact Option.some.inj h1
theorem drop_succ {ys xs : List Itm} {j : Nat} (h : ys.drop j = xs.drop j) : ys.drop (j + 1) = xs.drop (j + 1) := by
  have h1 := congrArg (List.drop 1) h
  rwa [List.drop_drop, List.drop_drop] at h1
set_option linter.unusedSimpArgs false in
set_option maxHeartbeats 4000000 in
set_option maxRecDepth 100000 in
theorem delete_any (w : World) (v : Value) (xs : List Itm) (p : Itm → Bool) (base bf : Nat) (hr : OwnT encI w base 39 v xs) (hP : Says p base bf w) (hb : base ≤ w.heap.size) (hn : xs.length ≤ 2000) :
    Calls Try.prog 53 #[v, (.func (.func 55) #[] #[.pointer (some ⟨bf, 0, none⟩)])] w fun e w' => ∃ v', e = .returned v' ∧ OwnT encI w' base 39 v' (xs.filter (fun x => !p x)) ∧ Below base w w' := by
  have HI := Lib.hid (idx_any w v xs p base bf hr.row hP hb hn)
  obtain ⟨pv, c, rfl⟩ := hr.form
  have HR := Lib.hid hr
  have HPP := Lib.hid hP
  have HBB := Lib.hid hb
  clear hr hP hb
  generalize hl : xs.length = n at *
  have HL := Lib.hid hl
  clear hl
  go_enter Try.func53, Try.ntmps53
  go_wp2_with fail
  refine HI.out.mono ?_
  rintro y w1 ⟨r, rfl, hix, hb1⟩
  have HB1 := Lib.hid hb1
  have HR1 := Lib.hid (HR.out.later hb1)
  clear hb1 HI
  rcases hix with ⟨rfl, hall⟩ | ⟨i0, rfl, hi0, hpi, hbe⟩
  · have HF : Hid (xs.filter (fun x => !p x) = xs) := by show _ = _; rw [List.filter_eq_self]; intro x hx; rw [hall x hx]; rfl
    clear hall
    go_wp2_with fail
    go_ret
    exact ⟨_, rfl, by rw [HF.out]; exact HR1.out, HB1.out.mono HBB.out⟩
  · have hi0n : i0 < n := by rw [← HL.out]; exact hi0
    obtain ⟨g, cur, hpv, hgb, hgB, hnc, _⟩ := HR1.out.lies (by omega)
    subst hpv
    have HST : Hid (DRel p xs w base g n c i0 (i0 + 1) w1) := by
      refine ⟨HB1.out.mono HBB.out, xs, HR1.out, ?_, rfl⟩
      rw [filt_take hi0, hpi, if_pos rfl, List.append_nil, List.filter_eq_self.2]
      intro x hx
      obtain ⟨j, hj, rfl⟩ := List.mem_iff_getElem.1 hx
      rw [List.length_take] at hj
      rw [List.getElem_take, hbe j (by omega) (by omega)]
      rfl
    have HGB : Hid (base ≤ g) := hgb
    have hne : ((i0 : Int) == -1) = false := by simp
    clear hgb hgB hbe hpi hi0 HR HR1 HB1
    go_wp2_with fail
    go_loopw [5, 6, 7] (fun vi vj _ wr => ∃ i j : Nat, vi = .int .i64 i ∧ vj = .int .i64 j ∧ j ≤ n ∧ i < j ∧ Hid (DRel p xs w base g n c i j wr)) (fun _ vj _ _ => n - (intOf vj).toNat)
    case atStart => exact ⟨i0, i0 + 1, rfl, by go_num, by omega, by omega, HST⟩
    case round =>
      obtain ⟨i, j, rfl, rfl, hjn, hij, HK⟩ := hrel
      clear HST
      obtain ⟨hbw, ys, hown, htk, hdr⟩ := HK.out
      have hyl : ys.length = n := by obtain ⟨p', c', e1⟩ := hown.form; exact (Value.slice.inj e1).2.1.symm
      have HOW := Lib.hid hown
      have HBW := Lib.hid hbw
      have HTK := Lib.hid htk
      have HDR := Lib.hid hdr
      have HYL := Lib.hid hyl
      clear hown hbw htk hdr hyl HK
      by_cases hlt : j < n
      · have hltI : (j : Int) < (n : Int) := by omega
        have hjx : j < xs.length := by rw [HL.out]; exact hlt
        have hjy : j < ys.length := by rw [HYL.out]; exact hlt
        obtain ⟨b, o, e1, hbl, hcs⟩ := HOW.out.row.at_ j hjy
        cases e1
        have HDX : Hid (ys[j] = xs[j]) := drop_at HDR.out hjx hjy
        rw [HDX.out] at hcs
        have HFT := Lib.hid (filt_take (p := p) hjx)
        have hinI : (i : Int) < (n : Int) := by omega
        obtain ⟨x, hx⟩ : ∃ x, xs[j] = x := ⟨_, rfl⟩
        have HX := Lib.hid hx
        rw [hx] at hcs HFT HDX
        clear hx
        have hcs : ∀ t, t < 8 → wr.cell? ⟨g, j * 8 + t, none⟩ = (Itm.cells x)[t]? := fun t ht => by have := hcs t ht; rwa [Nat.zero_add] at this
        have c0 : wr.cell? ⟨g, j * 8, none⟩ = some (.int .i64 x.s) := hcs 0 (by decide)
        have c1 : wr.cell? ⟨g, j * 8 + 1, none⟩ = some (.int .i64 x.n) := hcs 1 (by decide)
        have c2 : wr.cell? ⟨g, j * 8 + 2, none⟩ = some (.int .i64 x.b) := hcs 2 (by decide)
        have c3 : wr.cell? ⟨g, j * 8 + 3, none⟩ = some (.int .i64 x.c) := hcs 3 (by decide)
        have c4 : wr.cell? ⟨g, j * 8 + 4, none⟩ = some (.int .i64 x.a) := hcs 4 (by decide)
        have c5 : wr.cell? ⟨g, j * 8 + 5, none⟩ = some (.int .i64 x.r) := hcs 5 (by decide)
        have c6 : wr.cell? ⟨g, j * 8 + 6, none⟩ = some (.int .i64 x.t) := hcs 6 (by decide)
        have c7 : wr.cell? ⟨g, j * 8 + 7, none⟩ = some (.int .i64 x.y) := hcs 7 (by decide)
        have HBA : Hid (Below base w (wr.alloc (.cells #[.int .i64 x.s, .int .i64 x.n, .int .i64 x.b, .int .i64 x.c, .int .i64 x.a, .int .i64 x.r, .int .i64 x.t, .int .i64 x.y] 39))) := HBW.out.trans ((oneB wr _).mono (Nat.le_trans HBB.out HBW.out.size))
        have HD := Lib.hid (HPP.out _ HBA.out x)
        have HBX := Lib.hid (Blk.new wr #[.int .i64 x.s, .int .i64 x.n, .int .i64 x.b, .int .i64 x.c, .int .i64 x.a, .int .i64 x.r, .int .i64 x.t, .int .i64 x.y] 39)
        have HOA := Lib.hid (HOW.out.later (oneB wr (.cells #[.int .i64 x.s, .int .i64 x.n, .int .i64 x.b, .int .i64 x.c, .int .i64 x.a, .int .i64 x.r, .int .i64 x.t, .int .i64 x.y] 39)))
        unfold Itm.v at HD
        obtain ⟨px, hpx⟩ : ∃ px, p x = px := ⟨_, rfl⟩
        rw [hpx] at HD HFT
        clear hcs hpx
        cases px
        · have HFS : Hid ((xs.take (j + 1)).filter (fun x => !p x) = (xs.take j).filter (fun x => !p x) ++ [x]) := HFT.out
          clear HFT
          go_wp2_with fail
          generalize wr.alloc (.cells #[.int .i64 x.s, .int .i64 x.n, .int .i64 x.b, .int .i64 x.c, .int .i64 x.a, .int .i64 x.r, .int .i64 x.t, .int .i64 x.y] 39) = W1 at *
          generalize wr.heap.size = gx at *
          refine HD.out.mono ?_
          rintro y w2 ⟨rfl, hb2⟩
          have HB2 := Lib.hid (HBA.out.trans (hb2.mono (Nat.le_trans HBB.out HBA.out.size)))
          have HX2 := Lib.hid (HBX.out.below hb2 HBX.out.lt)
          have HO2 := Lib.hid (HOA.out.later hb2)
          clear hb2 HD HBA HBX HOA c0 c1 c2 c3 c4 c5 c6 c7
          have d0 : w2.cell? ⟨gx, 0, none⟩ = some (.int .i64 x.s) := HX2.out.cell 0
          have d1 : w2.cell? ⟨gx, 1, none⟩ = some (.int .i64 x.n) := HX2.out.cell 1
          have d2 : w2.cell? ⟨gx, 2, none⟩ = some (.int .i64 x.b) := HX2.out.cell 2
          have d3 : w2.cell? ⟨gx, 3, none⟩ = some (.int .i64 x.c) := HX2.out.cell 3
          have d4 : w2.cell? ⟨gx, 4, none⟩ = some (.int .i64 x.a) := HX2.out.cell 4
          have d5 : w2.cell? ⟨gx, 5, none⟩ = some (.int .i64 x.r) := HX2.out.cell 5
          have d6 : w2.cell? ⟨gx, 6, none⟩ = some (.int .i64 x.t) := HX2.out.cell 6
          have d7 : w2.cell? ⟨gx, 7, none⟩ = some (.int .i64 x.y) := HX2.out.cell 7
          have HTH := Lib.hid (HO2.out.there i 8 (by show i * 8 + 8 ≤ c * 8; omega) (by omega))
          have HINF : Hid ((Try.prog.info? 39).map (·.size) = some (#[.int .i64 x.s, .int .i64 x.n, .int .i64 x.b, .int .i64 x.c, .int .i64 x.a, .int .i64 x.r, .int .i64 x.t, .int .i64 x.y] : Array Value).size) := by
            obtain ⟨ii, _, hi, _, hs, _⟩ := eltI
            show _ = _
            rw [hi]
            show some ii.size = some 8
            rw [hs]
          have HN : Hid (DRel p xs w base g n c (i + 1) (j + 1) (w2.setCells g (i * 8) (#[.int .i64 x.s, .int .i64 x.n, .int .i64 x.b, .int .i64 x.c, .int .i64 x.a, .int .i64 x.r, .int .i64 x.t, .int .i64 x.y] : Array Value).toList)) := by
            refine ⟨below_put HGB.out _ _ _ _ HB2.out, ys.set i x, HO2.out.put i (by omega) x, ?_, ?_⟩
            · rw [HFS.out, ← HTK.out, List.take_succ_eq_append_getElem (by rw [List.length_set, HYL.out]; omega), List.getElem_set_self]
              congr 1
              rw [List.take_set]
              exact List.set_eq_of_length_le (by rw [List.length_take]; omega)
            · rw [List.drop_set_of_lt (by omega)]
              exact drop_succ HDR.out
          clear HB2 HO2 HX2
          go_wp2_with (with_reducible refine stop_storeT 39 (.tmp 33) (.tmp 32) rfl ?_)
          refine wpList_store_mid rfl 39 (.tmp 33) (.tmp 32) rfl g (i * 8) #[.int .i64 x.s, .int .i64 x.n, .int .i64 x.b, .int .i64 x.c, .int .i64 x.a, .int .i64 x.r, .int .i64 x.t, .int .i64 x.y] rfl rfl HTH.out HINF.out (all_oneCell_toArray (encI.one x)) ?_
          clear HTH HINF d0 d1 d2 d3 d4 d5 d6 d7
          generalize World.setCells w2 g (i * 8) _ = W3 at *
          go_wp2_with fail
          go_roundw
          case rel => exact ⟨i + 1, j + 1, by go_num, by go_num, by omega, by omega, HN⟩
          case measure => simp [intOf]; omega
        · have HFS : Hid ((xs.take (j + 1)).filter (fun x => !p x) = (xs.take j).filter (fun x => !p x)) := by
            show _ = _
            rw [HFT.out, if_pos rfl, List.append_nil]
          clear HFT
          go_wp2_with fail
          generalize wr.alloc (.cells #[.int .i64 x.s, .int .i64 x.n, .int .i64 x.b, .int .i64 x.c, .int .i64 x.a, .int .i64 x.r, .int .i64 x.t, .int .i64 x.y] 39) = W1 at *
          refine HD.out.mono ?_
          rintro y w2 ⟨rfl, hb2⟩
          have HN : Hid (DRel p xs w base g n c i (j + 1) w2) := ⟨HBA.out.trans (hb2.mono (Nat.le_trans HBB.out HBA.out.size)), ys, HOA.out.later hb2, by rw [HFS.out]; exact HTK.out, drop_succ HDR.out⟩
          clear hb2 HD HBA HBX HOA c0 c1 c2 c3 c4 c5 c6 c7
          go_wp2_with fail
          go_roundw
          case rel => exact ⟨i, j + 1, rfl, by go_num, by omega, by omega, HN⟩
          case measure => simp [intOf]; omega
      · have hle : (n : Int) ≤ (j : Int) := by omega
        have hjeq : j = n := by omega
        have HFIN : Hid (∀ vs, OwnT encI (wr.setCells g (i * 8) vs) base 39 (.slice (some ⟨g, 0, none⟩) i c) (xs.filter (fun x => !p x)) ∧ Below base w (wr.setCells g (i * 8) vs)) := fun vs => ⟨by
          have h := HOW.out.cutAt i (by omega) (by omega) vs
          rw [HTK.out, hjeq, ← HL.out, List.take_length] at h
          exact h, below_put HGB.out _ _ _ _ HBW.out⟩
        have HTH := Lib.hid (HOW.out.there i ((n - i) * 8) (by show i * 8 + (n - i) * 8 ≤ c * 8; omega) (by omega))
        have g1 : (i : Int) ≤ (n : Int) := by omega
        have g2 : (n : Int) ≤ (c : Int) := by omega
        have g3 : ¬ c - i = 0 := by omega
        have g4 : (i : Int) ≤ (c : Int) := by omega
        clear HBW HOW HTK HDR hjeq
        go_wp2_with (with_reducible refine stop_clear (.tmp 38) 22 rfl ?_)
        refine wpList_clear_t rfl (.tmp 38) 22 rfl 39 zeroVI Try.underlying22 zeroVI_run zeroVI_one g (i * 8) _ _ ?hn rfl ?hc (fun vs => ?_)
        case hn => first | omega | (rw [HL.out]; omega)
        case hc => first | exact HTH.out | (rw [HL.out]; exact HTH.out)
        have HF2 := Lib.hid (HFIN.out vs)
        clear HFIN HTH
        generalize World.setCells wr g (i * 8) vs = W5 at *
        go_wp2_with fail
        go_ret
        exact ⟨_, rfl, HF2.out.1, HF2.out.2⟩
end Go.Proofs.Ytillckkohdjkbaa
