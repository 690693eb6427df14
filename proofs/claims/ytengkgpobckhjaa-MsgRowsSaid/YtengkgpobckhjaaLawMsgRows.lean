/- MsgRows: the walk. -/
import Derived.Test.YtengkgpobckhjaaLawMsgShort
import Derived.Test.YtengkgpobckhjaaMsgSame
namespace Go.Proofs.Ytengkgpobckhjaa
open Go.RowKit
set_option linter.unusedSimpArgs false
theorem num_stay {r : RS} (h : r.e ≠ 0) : r.num.e = r.e := by show numE r.z r.e = r.e; unfold numE; rw [if_neg h]
theorem int_stay {r : RS} (h : r.e ≠ 0) {a b : Int} (ha : a ≤ 0) (hb : 0 ≤ b) : (r.int a b).e = r.e := by
  show intE r.z r.e a b = r.e
  have h1 : numE r.z r.e = r.e := num_stay h
  have h2 : numV r.z r.e = 0 := by unfold Go.Proofs.Ytengkgpobckhjaa.numV; rw [if_neg (by rw [h1]; exact h)]
  unfold intE
  rw [h2, if_neg (by simp [outB]; omega), h1]
theorem bool_stay {r : RS} (h : r.e ≠ 0) : r.bool.e = r.e := by
  show boolE r.z r.e = r.e
  have h1 : takeE r.z r.e 1 = r.e := by unfold takeE; rw [if_pos h]
  unfold boolE
  rw [h1, if_neg h]
theorem nx_stay {r : RS} (h : r.e ≠ 0) : r.nx.e = r.e := int_stay h (by decide) (by decide)
theorem lins_stay {r : RS} (h : r.e ≠ 0) : ∀ n, (r.lins n).e = r.e
  | 0 => rfl
  | n + 1 => by
    have h0 := lins_stay h n
    have h1 := nx_stay (r := r.lins n) (by rw [h0]; exact h)
    have h2 := nx_stay (r := (r.lins n).nx) (by rw [h1, h0]; exact h)
    have h3 := nx_stay (r := (r.lins n).nx.nx) (by rw [h2, h1, h0]; exact h)
    have h4 := num_stay (r := (r.lins n).nx.nx.nx) (by rw [h3, h2, h1, h0]; exact h)
    rw [RS.lins]
    exact h4.trans (h3.trans (h2.trans (h1.trans h0)))
theorem nets_stay {r : RS} (h : r.e ≠ 0) : ∀ n, (r.nets n).e = r.e
  | 0 => rfl
  | n + 1 => by
    have h0 := nets_stay h n
    rw [RS.nets]
    exact (num_stay (r := r.nets n) (by rw [h0]; exact h)).trans h0
theorem R13_e {r : RS} (h : r.nx.e ≠ 0) : (R13 r).e = r.nx.e := by
  have h2 : r.nx.nx.e = r.nx.e := nx_stay h
  have h3 : r.nx.nx.nx.e = r.nx.e := (nx_stay (r := r.nx.nx) (by rw [h2]; exact h)).trans h2
  have h4 : r.nx.nx.nx.nx.e = r.nx.e := (nx_stay (r := r.nx.nx.nx) (by rw [h3]; exact h)).trans h3
  have h5 : r.nx.nx.nx.nx.nx.e = r.nx.e := (nx_stay (r := r.nx.nx.nx.nx) (by rw [h4]; exact h)).trans h4
  have h6 : r.nx.nx.nx.nx.nx.nx.e = r.nx.e := (nx_stay (r := r.nx.nx.nx.nx.nx) (by rw [h5]; exact h)).trans h5
  have e7 : (R7 r).e = r.nx.e := (nx_stay (r := r.nx.nx.nx.nx.nx.nx) (by rw [h6]; exact h)).trans h6
  have e8 : (R7 r).num.e = r.nx.e := (num_stay (by rw [e7]; exact h)).trans e7
  have e9 : (R9 r).e = r.nx.e := (bool_stay (r := (R7 r).num) (by rw [e8]; exact h)).trans e8
  have e10 : (R10 r).e = r.nx.e := (int_stay (r := R9 r) (by rw [e9]; exact h) (by decide) (by decide)).trans e9
  have e11 : (R11 r).e = r.nx.e := (lins_stay (r := R10 r) (by rw [e10]; exact h) _).trans e10
  have e12 : (R12 r).e = r.nx.e := (int_stay (r := R11 r) (by rw [e11]; exact h) (by decide) (by decide)).trans e11
  exact (nets_stay (r := R12 r) (by rw [e12]; exact h) _).trans e12
theorem rd_bad {r : RS} (h : r.nx.e ≠ 0) : rdE r = r.nx.e ∧ (rdR r).e = r.nx.e ∧ rdM r = msg0 := by
  have hb : badK r = false := by unfold badK; simp [h]
  have h1 : rdE r = r.nx.e := by unfold rdE; rw [hb]; exact R13_e h
  exact ⟨h1, by unfold rdR; rw [hb]; exact R13_e h, by unfold rdM; rw [if_neg (by rw [h1]; exact h)]⟩
theorem nil_e : (⟨[], 0⟩ : RS).nx.e = 40 := by decide
/-- The bytes of all. -/
def fl (xs : List MsgX) : List Int := xs.flatMap (fun x => msgL x.m)
structure MR1 (W : World) (xs : List MsgX) (k : Nat) (v : Value) (wr : World) : Prop where
  row : Row .u8 wr v (fl (xs.take k))
  ok : ∀ x ∈ xs.take k, msgE x.m = 0
  len : (fl (xs.take k)).length ≤ 50000 * k
  low : Below W.heap.size W wr
structure MR2 (W : World) (gr : Nat) (xs : List MsgX) (k : Nat) (wr : World) : Prop where
  rd : ∃ g0, Rdr wr gr g0 (fl (xs.drop k)) 0
  low : Below W.heap.size W wr
theorem fl_oct (xs : List MsgX) : Oct (fl xs) := flat_oct (f := fun x : MsgX => msgL x.m) (fun x => msgL_oct x.m) xs
set_option maxHeartbeats 16000000 in
set_option maxRecDepth 100000 in
theorem mrows_walk (va : Value) (xs : List MsgX) (W : World) (hx : TRow encM W va xs) (hf : ∀ y ∈ xs, y.In W) :
    Calls Try.prog 5 #[va] W fun e w' => e = .returned (.bool true) ∧ Below W.heap.size W w' := by
  obtain ⟨px, cx, rfl⟩ := hx.shape
  have HXS := Lib.hid hx
  have HF := Lib.hid hf
  clear hx hf
  generalize hxl : xs.length = n at *
  have HXL := Lib.hid hxl
  clear hxl
  by_cases h1 : 10 < n
  · have g1 : (10 : Int) < (n : Int) := by omega
    go_enter Try.func5, Try.ntmps5
    go_wp2_with fail
    refine (says_any _).mono ?_
    rintro y w1 ⟨rfl, hb1⟩
    go_wp2_with fail
    go_ret
    exact ⟨rfl, hb1⟩
  have g1 : ¬ (10 : Int) < (n : Int) := by omega
  have HN10 : Hid (n ≤ 10) := by show n ≤ 10; omega
  go_enter Try.func5, Try.ntmps5
  go_wp2_with fail
  refine (says_any _).mono ?_
  rintro y w1 ⟨rfl, hb1⟩
  have HREL : Hid (MR1 W xs 0 (.slice none 0 0) w1) := ⟨Row.nil_ _ _ 0, (fun _ h => by simp at h), by simp [fl], hb1⟩
  clear hb1
  go_wp2_with fail
  go_loopw [3, 24] (fun v i wr => ∃ k : Nat, k ≤ n ∧ i = .int .i64 k ∧ Hid (MR1 W xs k v wr)) (fun _ i _ => n - (intOf i).toNat)
  case atStart => exact ⟨0, by omega, rfl, HREL⟩
  case round =>
    obtain ⟨k, hk, rfl, HKR⟩ := hrel
    clear HREL
    obtain ⟨hrow, hok, hlen, hlow⟩ := HKR.out
    by_cases hlt : k < n
    · have hltI : (k : Int) < (n : Int) := by omega
      as_aux_lemma =>
      have hkx : k < xs.length := by rw [HXL.out]; exact hlt
      obtain ⟨b, o, rfl, hbl, hcs⟩ := (HXS.out.kept hlow).at_ k hkx
      have HIN := Lib.hid ((HF.out xs[k] (List.getElem_mem hkx)).kept hlow)
      have HTK : Hid (xs.take (k + 1) = xs.take k ++ [xs[k]]) := List.take_succ_eq_append_getElem hkx
      generalize xs[k] = X at *
      obtain ⟨m, pl, cl, pn, cn⟩ := X
      have HROW := Lib.hid hrow
      have HOK := Lib.hid hok
      have HLEN := Lib.hid hlen
      have HLO := Lib.hid hlow
      have c0 : wr.cell? ⟨b, o + k * 11, none⟩ = some (.int .i64 m.k) := hcs 0 (by decide)
      have c1 : wr.cell? ⟨b, o + k * 11 + 1, none⟩ = some (.int .i64 m.s) := hcs 1 (by decide)
      have c2 : wr.cell? ⟨b, o + k * 11 + 2, none⟩ = some (.int .i64 m.n) := hcs 2 (by decide)
      have c3 : wr.cell? ⟨b, o + k * 11 + 3, none⟩ = some (.int .i64 m.b) := hcs 3 (by decide)
      have c4 : wr.cell? ⟨b, o + k * 11 + 4, none⟩ = some (.int .i64 m.c) := hcs 4 (by decide)
      have c5 : wr.cell? ⟨b, o + k * 11 + 5, none⟩ = some (.int .i64 m.r) := hcs 5 (by decide)
      have c6 : wr.cell? ⟨b, o + k * 11 + 6, none⟩ = some (.int .i64 m.y) := hcs 6 (by decide)
      have c7 : wr.cell? ⟨b, o + k * 11 + 7, none⟩ = some (.int .i64 m.a) := hcs 7 (by decide)
      have c8 : wr.cell? ⟨b, o + k * 11 + 8, none⟩ = some (.bool m.t) := hcs 8 (by decide)
      have c9 : wr.cell? ⟨b, o + k * 11 + 9, none⟩ = some (.slice pl m.ls.length cl) := hcs 9 (by decide)
      have c10 : wr.cell? ⟨b, o + k * 11 + 10, none⟩ = some (.slice pn m.ns.length cn) := hcs 10 (by decide)
      clear hrow hok hlen hlow hcs hbl HKR
      have hkb : k + 1 ≤ 100 := by have := HN10.out; omega
      have HB5 := Lib.hid (oneB wr (.cells #[.int .i64 m.k, .int .i64 m.s, .int .i64 m.n, .int .i64 m.b, .int .i64 m.c, .int .i64 m.r, .int .i64 m.y, .int .i64 m.a, .bool m.t, .slice pl m.ls.length cl, .slice pn m.ns.length cn] 28))
      go_wp2_with fail
      clear c0 c1 c2 c3 c4 c5 c6 c7 c8 c9 c10
      by_cases hf : m.ls.length ≤ 1100 ∧ m.ns.length ≤ 20
      · have HFT := Lib.hid hf
        refine (fits_any ⟨m, pl, cl, pn, cn⟩ _).mono ?_
        rintro y w2 ⟨rfl, hb2⟩
        dsimp only
        rw [decide_eq_true hf]
        clear hf
        have hx2 := (Blk.new wr #[.int .i64 m.k, .int .i64 m.s, .int .i64 m.n, .int .i64 m.b, .int .i64 m.c, .int .i64 m.r, .int .i64 m.y, .int .i64 m.a, .bool m.t, .slice pl m.ls.length cl, .slice pn m.ns.length cn] 28).below hb2 (Blk.new wr #[.int .i64 m.k, .int .i64 m.s, .int .i64 m.n, .int .i64 m.b, .int .i64 m.c, .int .i64 m.r, .int .i64 m.y, .int .i64 m.a, .bool m.t, .slice pl m.ls.length cl, .slice pn m.ns.length cn] 28).lt
        have c0 : w2.cell? ⟨wr.heap.size, 0, none⟩ = some (.int .i64 m.k) := hx2.cell 0
        have c1 : w2.cell? ⟨wr.heap.size, 1, none⟩ = some (.int .i64 m.s) := hx2.cell 1
        have c2 : w2.cell? ⟨wr.heap.size, 2, none⟩ = some (.int .i64 m.n) := hx2.cell 2
        have c3 : w2.cell? ⟨wr.heap.size, 3, none⟩ = some (.int .i64 m.b) := hx2.cell 3
        have c4 : w2.cell? ⟨wr.heap.size, 4, none⟩ = some (.int .i64 m.c) := hx2.cell 4
        have c5 : w2.cell? ⟨wr.heap.size, 5, none⟩ = some (.int .i64 m.r) := hx2.cell 5
        have c6 : w2.cell? ⟨wr.heap.size, 6, none⟩ = some (.int .i64 m.y) := hx2.cell 6
        have c7 : w2.cell? ⟨wr.heap.size, 7, none⟩ = some (.int .i64 m.a) := hx2.cell 7
        have c8 : w2.cell? ⟨wr.heap.size, 8, none⟩ = some (.bool m.t) := hx2.cell 8
        have c9 : w2.cell? ⟨wr.heap.size, 9, none⟩ = some (.slice pl m.ls.length cl) := hx2.cell 9
        have c10 : w2.cell? ⟨wr.heap.size, 10, none⟩ = some (.slice pn m.ns.length cn) := hx2.cell 10
        have C2 := Lib.hid (HB5.out.trans (hb2.mono HB5.out.size))
        clear hx2 hb2 HB5
        go_wp2_with fail
        clear c0 c1 c2 c3 c4 c5 c6 c7 c8 c9 c10
        have HLB : Hid ((fl (xs.take k)).length ≤ 5000000) := by show _ ≤ _; have := HLEN.out; omega
        refine (write_any u3 (fl (xs.take k)) m _ _ w2 (HROW.out.kept C2.out) (HIN.out.ls.kept C2.out) (HIN.out.ns.kept C2.out) HIN.out.fit (by have := HLB.out; omega) (by have := HFT.out.1; omega) (by have := HFT.out.2; omega)).mono ?_
        rintro y w3 ⟨v3, rfl, ho3, hb3⟩
        have C3 := Lib.hid (C2.out.trans (hb3.mono C2.out.size))
        have HLO3 := Lib.hid (HLO.out.trans (C3.out.mono HLO.out.size))
        by_cases hE : msgE m = 0
        · have hw : wrL (fl (xs.take k)) m = fl (xs.take (k + 1)) := by
            unfold wrL
            rw [if_pos hE, HTK.out]
            simp [fl]
          rw [hw] at ho3
          rw [hE]
          have hml := msgL_len HIN.out.fit (msgE_ok hE).2.1 (msgE_ok hE).2.2.1
          have HNX : Hid (MR1 W xs (k + 1) v3 w3) := by
            refine ⟨ho3.row, ?_, ?_, HLO3.out⟩
            · intro x hx
              rw [HTK.out] at hx
              rcases List.mem_append.1 hx with hx | hx
              · exact HOK.out x hx
              · simp at hx
                subst hx
                exact hE
            · have h1 := HLEN.out
              rw [HTK.out]
              simp only [fl, List.flatMap_append, List.length_append, List.flatMap_cons, List.flatMap_nil, List.append_nil]
              unfold fl at h1
              dsimp only at h1 hml ⊢
              omega
          clear ho3 hb3 hw hE hml
          go_wp2_with fail
          go_roundw
          case rel => exact ⟨k + 1, by omega, by go_num, HNX⟩
          case measure => simp [intOf]; omega
        · have he : (msgE m != 0) = true := by simpa using hE
          clear ho3 hb3
          generalize msgE m = E at *
          clear hE
          go_wp2_with fail
          go_ret
          exact ⟨rfl, HLO3.out⟩
      · refine (fits_any ⟨m, pl, cl, pn, cn⟩ _).mono ?_
        rintro y w2 ⟨rfl, hb2⟩
        dsimp only
        rw [decide_eq_false hf]
        have HLO2 := Lib.hid (HLO.out.trans ((HB5.out.trans (hb2.mono HB5.out.size)).mono HLO.out.size))
        clear hf hb2
        go_wp2_with fail
        go_ret
        exact ⟨rfl, HLO2.out⟩
    · have hltI : (n : Int) ≤ (k : Int) := by omega
      have hkn : k = n := by omega
      subst hkn
      as_aux_lemma =>
      have htk : xs.take k = xs := List.take_of_length_le (by rw [HXL.out]; exact Nat.le_refl _)
      rw [htk] at hrow hok hlen
      have HOK := Lib.hid hok
      have HLEN : Hid ((fl xs).length ≤ 500000) := by show _ ≤ _; have := HN10.out; omega
      have HLO := Lib.hid hlow
      have HROW := Lib.hid hrow
      clear hrow hok hlen hlow HKR htk
      go_wp2_with fail
      refine (read_any u3 (fl xs) wr HROW.out (by have := HLEN.out; omega)).mono ?_
      rintro y w2 ⟨gr, g0, rfl, hr2, hg2, _, hb2⟩
      have HGR : Hid (W.heap.size ≤ gr) := Nat.le_trans HLO.out.size hg2
      have HREL2 : Hid (MR2 W gr xs 0 w2) := ⟨⟨g0, hr2⟩, HLO.out.trans (hb2.mono HLO.out.size)⟩
      clear hr2 hg2 hb2 HLO HROW
      go_wp2_with fail
      go_loopw [45] (fun i wr => ∃ j : Nat, j ≤ k ∧ i = .int .i64 j ∧ Hid (MR2 W gr xs j wr)) (fun i _ => k - (intOf i).toNat)
      case atStart => exact ⟨0, by omega, rfl, HREL2⟩
      case round =>
        obtain ⟨j, hj, rfl, HKR⟩ := hrel
        clear HREL2
        obtain ⟨⟨gq, hrd⟩, hlow⟩ := HKR.out
        have HLO := Lib.hid hlow
        have HRD := Lib.hid hrd
        clear hrd HKR
        by_cases hlj : j < k
        · have hljI : (j : Int) < (k : Int) := by omega
          as_aux_lemma =>
          have hkx : j < xs.length := by rw [HXL.out]; exact hlj
          obtain ⟨b, o, rfl, hbl, hcs⟩ := (HXS.out.kept hlow).at_ j hkx
          have HIN := Lib.hid (HF.out xs[j] (List.getElem_mem hkx))
          have HME := Lib.hid (HOK.out xs[j] (List.getElem_mem hkx))
          have HDR : Hid (fl (xs.drop j) = msgL xs[j].m ++ fl (xs.drop (j + 1))) := by
            show _ = _
            have h0 : xs.drop j = xs[j] :: xs.drop (j + 1) := List.drop_eq_getElem_cons hkx
            unfold fl
            rw [h0, List.flatMap_cons]
          generalize xs[j] = X at *
          obtain ⟨m, pl, cl, pn, cn⟩ := X
          have c0 : wr.cell? ⟨b, o + j * 11, none⟩ = some (.int .i64 m.k) := hcs 0 (by decide)
          have c1 : wr.cell? ⟨b, o + j * 11 + 1, none⟩ = some (.int .i64 m.s) := hcs 1 (by decide)
          have c2 : wr.cell? ⟨b, o + j * 11 + 2, none⟩ = some (.int .i64 m.n) := hcs 2 (by decide)
          have c3 : wr.cell? ⟨b, o + j * 11 + 3, none⟩ = some (.int .i64 m.b) := hcs 3 (by decide)
          have c4 : wr.cell? ⟨b, o + j * 11 + 4, none⟩ = some (.int .i64 m.c) := hcs 4 (by decide)
          have c5 : wr.cell? ⟨b, o + j * 11 + 5, none⟩ = some (.int .i64 m.r) := hcs 5 (by decide)
          have c6 : wr.cell? ⟨b, o + j * 11 + 6, none⟩ = some (.int .i64 m.y) := hcs 6 (by decide)
          have c7 : wr.cell? ⟨b, o + j * 11 + 7, none⟩ = some (.int .i64 m.a) := hcs 7 (by decide)
          have c8 : wr.cell? ⟨b, o + j * 11 + 8, none⟩ = some (.bool m.t) := hcs 8 (by decide)
          have c9 : wr.cell? ⟨b, o + j * 11 + 9, none⟩ = some (.slice pl m.ls.length cl) := hcs 9 (by decide)
          have c10 : wr.cell? ⟨b, o + j * 11 + 10, none⟩ = some (.slice pn m.ns.length cn) := hcs 10 (by decide)
          have hjb : j + 1 ≤ 100 := by have := HN10.out; omega
          clear hcs hbl hlow
          have HLD : Hid ((fl (xs.drop j)).length ≤ 500000) := by
            show _ ≤ _
            have h1 := HLEN.out
            have h2 : (fl xs).length = (fl (xs.take j)).length + (fl (xs.drop j)).length := by
              have h3 : fl xs = fl (xs.take j) ++ fl (xs.drop j) := by unfold fl; rw [← List.flatMap_append, List.take_append_drop]
              rw [h3, List.length_append]
            omega
          go_wp2_with fail
          clear c0 c1 c2 c3 c4 c5 c6 c7 c8 c9 c10
          have HB5 := Lib.hid (oneB wr (.cells #[.int .i64 m.k, .int .i64 m.s, .int .i64 m.n, .int .i64 m.b, .int .i64 m.c, .int .i64 m.r, .int .i64 m.y, .int .i64 m.a, .bool m.t, .slice pl m.ls.length cl, .slice pn m.ns.length cn] 28))
          refine (from_any gr gq ⟨fl (xs.drop j), 0⟩ _ (HRD.out.below HB5.out) ⟨fl_oct _, by have := HLD.out; show (fl (xs.drop j)).length ≤ _; omega⟩).mono ?_
          rintro y w2 ⟨vl2, vn2, g2, rfl, ol2, on2, hc2, hr2⟩
          have hw := msg_w HME.out HIN.out.fit (fl (xs.drop (j + 1)))
          try dsimp only at hw
          rw [← HDR.out] at hw
          rw [hw.2.1] at ol2 on2
          rw [hw.2.2] at hr2
          rw [hw.1, hw.2.1]
          clear hw
          obtain ⟨pl2, cl2, rfl⟩ := ol2.form
          obtain ⟨pn2, cn2, rfl⟩ := on2.form
          unfold Msg.v
          have C2 : Hid (Below W.heap.size wr w2) := (HB5.out.mono HLO.out.size).trans (hc2.below (B := W.heap.size) HGR.out (by have h1 := HLO.out.size; simp; omega))
          have hne : wr.heap.size ≠ gr := by have := HRD.out.lt; omega
          have hx2 := ((Blk.new wr #[.int .i64 m.k, .int .i64 m.s, .int .i64 m.n, .int .i64 m.b, .int .i64 m.c, .int .i64 m.r, .int .i64 m.y, .int .i64 m.a, .bool m.t, .slice pl m.ls.length cl, .slice pn m.ns.length cn] 28).chg hc2 hne).alloc (.cells #[.int .i64 m.k, .int .i64 m.s, .int .i64 m.n, .int .i64 m.b, .int .i64 m.c, .int .i64 m.r, .int .i64 m.y, .int .i64 m.a, .bool m.t, .slice pl2 m.ls.length cl2, .slice pn2 m.ns.length cn2] 28)
          have HOL := Lib.hid (ol2.row.kept (oneB w2 (.cells #[.int .i64 m.k, .int .i64 m.s, .int .i64 m.n, .int .i64 m.b, .int .i64 m.c, .int .i64 m.r, .int .i64 m.y, .int .i64 m.a, .bool m.t, .slice pl2 m.ls.length cl2, .slice pn2 m.ns.length cn2] 28)))
          have HON := Lib.hid (on2.row.kept (oneB w2 (.cells #[.int .i64 m.k, .int .i64 m.s, .int .i64 m.n, .int .i64 m.b, .int .i64 m.c, .int .i64 m.r, .int .i64 m.y, .int .i64 m.a, .bool m.t, .slice pl2 m.ls.length cl2, .slice pn2 m.ns.length cn2] 28)))
          have HR3 := Lib.hid (hr2.below (oneB w2 (.cells #[.int .i64 m.k, .int .i64 m.s, .int .i64 m.n, .int .i64 m.b, .int .i64 m.c, .int .i64 m.r, .int .i64 m.y, .int .i64 m.a, .bool m.t, .slice pl2 m.ls.length cl2, .slice pn2 m.ns.length cn2] 28)))
          have C3 := Lib.hid (C2.out.alloc (Nat.le_trans HLO.out.size (by have h1 := C2.out.size; exact h1)) (.cells #[.int .i64 m.k, .int .i64 m.s, .int .i64 m.n, .int .i64 m.b, .int .i64 m.c, .int .i64 m.r, .int .i64 m.y, .int .i64 m.a, .bool m.t, .slice pl2 m.ls.length cl2, .slice pn2 m.ns.length cn2] 28))
          have c0 : (w2.alloc (.cells #[.int .i64 m.k, .int .i64 m.s, .int .i64 m.n, .int .i64 m.b, .int .i64 m.c, .int .i64 m.r, .int .i64 m.y, .int .i64 m.a, .bool m.t, .slice pl2 m.ls.length cl2, .slice pn2 m.ns.length cn2] 28)).cell? ⟨wr.heap.size, 0, none⟩ = some (.int .i64 m.k) := hx2.cell 0
          have c1 : (w2.alloc (.cells #[.int .i64 m.k, .int .i64 m.s, .int .i64 m.n, .int .i64 m.b, .int .i64 m.c, .int .i64 m.r, .int .i64 m.y, .int .i64 m.a, .bool m.t, .slice pl2 m.ls.length cl2, .slice pn2 m.ns.length cn2] 28)).cell? ⟨wr.heap.size, 1, none⟩ = some (.int .i64 m.s) := hx2.cell 1
          have c2 : (w2.alloc (.cells #[.int .i64 m.k, .int .i64 m.s, .int .i64 m.n, .int .i64 m.b, .int .i64 m.c, .int .i64 m.r, .int .i64 m.y, .int .i64 m.a, .bool m.t, .slice pl2 m.ls.length cl2, .slice pn2 m.ns.length cn2] 28)).cell? ⟨wr.heap.size, 2, none⟩ = some (.int .i64 m.n) := hx2.cell 2
          have c3 : (w2.alloc (.cells #[.int .i64 m.k, .int .i64 m.s, .int .i64 m.n, .int .i64 m.b, .int .i64 m.c, .int .i64 m.r, .int .i64 m.y, .int .i64 m.a, .bool m.t, .slice pl2 m.ls.length cl2, .slice pn2 m.ns.length cn2] 28)).cell? ⟨wr.heap.size, 3, none⟩ = some (.int .i64 m.b) := hx2.cell 3
          have c4 : (w2.alloc (.cells #[.int .i64 m.k, .int .i64 m.s, .int .i64 m.n, .int .i64 m.b, .int .i64 m.c, .int .i64 m.r, .int .i64 m.y, .int .i64 m.a, .bool m.t, .slice pl2 m.ls.length cl2, .slice pn2 m.ns.length cn2] 28)).cell? ⟨wr.heap.size, 4, none⟩ = some (.int .i64 m.c) := hx2.cell 4
          have c5 : (w2.alloc (.cells #[.int .i64 m.k, .int .i64 m.s, .int .i64 m.n, .int .i64 m.b, .int .i64 m.c, .int .i64 m.r, .int .i64 m.y, .int .i64 m.a, .bool m.t, .slice pl2 m.ls.length cl2, .slice pn2 m.ns.length cn2] 28)).cell? ⟨wr.heap.size, 5, none⟩ = some (.int .i64 m.r) := hx2.cell 5
          have c6 : (w2.alloc (.cells #[.int .i64 m.k, .int .i64 m.s, .int .i64 m.n, .int .i64 m.b, .int .i64 m.c, .int .i64 m.r, .int .i64 m.y, .int .i64 m.a, .bool m.t, .slice pl2 m.ls.length cl2, .slice pn2 m.ns.length cn2] 28)).cell? ⟨wr.heap.size, 6, none⟩ = some (.int .i64 m.y) := hx2.cell 6
          have c7 : (w2.alloc (.cells #[.int .i64 m.k, .int .i64 m.s, .int .i64 m.n, .int .i64 m.b, .int .i64 m.c, .int .i64 m.r, .int .i64 m.y, .int .i64 m.a, .bool m.t, .slice pl2 m.ls.length cl2, .slice pn2 m.ns.length cn2] 28)).cell? ⟨wr.heap.size, 7, none⟩ = some (.int .i64 m.a) := hx2.cell 7
          have c8 : (w2.alloc (.cells #[.int .i64 m.k, .int .i64 m.s, .int .i64 m.n, .int .i64 m.b, .int .i64 m.c, .int .i64 m.r, .int .i64 m.y, .int .i64 m.a, .bool m.t, .slice pl2 m.ls.length cl2, .slice pn2 m.ns.length cn2] 28)).cell? ⟨wr.heap.size, 8, none⟩ = some (.bool m.t) := hx2.cell 8
          have c9 : (w2.alloc (.cells #[.int .i64 m.k, .int .i64 m.s, .int .i64 m.n, .int .i64 m.b, .int .i64 m.c, .int .i64 m.r, .int .i64 m.y, .int .i64 m.a, .bool m.t, .slice pl2 m.ls.length cl2, .slice pn2 m.ns.length cn2] 28)).cell? ⟨wr.heap.size, 9, none⟩ = some (.slice pl m.ls.length cl) := hx2.cell 9
          have c10 : (w2.alloc (.cells #[.int .i64 m.k, .int .i64 m.s, .int .i64 m.n, .int .i64 m.b, .int .i64 m.c, .int .i64 m.r, .int .i64 m.y, .int .i64 m.a, .bool m.t, .slice pl2 m.ls.length cl2, .slice pn2 m.ns.length cn2] 28)).cell? ⟨wr.heap.size, 10, none⟩ = some (.slice pn m.ns.length cn) := hx2.cell 10
          clear hx2 hr2 hc2 ol2 on2 HB5
          go_wp2_with fail
          clear c0 c1 c2 c3 c4 c5 c6 c7 c8 c9 c10
          generalize w2.alloc (.cells #[.int .i64 m.k, .int .i64 m.s, .int .i64 m.n, .int .i64 m.b, .int .i64 m.c, .int .i64 m.r, .int .i64 m.y, .int .i64 m.a, .bool m.t, .slice pl2 m.ls.length cl2, .slice pn2 m.ns.length cn2] 28) = w3 at *
          refine (msame_any m _ _ _ _ w3 HOL.out HON.out (HIN.out.ls.kept (HLO.out.trans C3.out)) (HIN.out.ns.kept (HLO.out.trans C3.out)) (by have := (msgE_ok HME.out).2.1; omega) (by have := (msgE_ok HME.out).2.2.1; omega)).mono ?_
          rintro y w4 ⟨rfl, hb4⟩
          have HNX : Hid (MR2 W gr xs (j + 1) w4) := ⟨⟨g2, HR3.out.below hb4⟩, (HLO.out.trans C3.out).trans (hb4.mono (HLO.out.trans C3.out).size)⟩
          clear hb4
          go_wp2_with fail
          go_roundw
          case rel => exact ⟨j + 1, by omega, by go_num, HNX⟩
          case measure => simp [intOf]; omega
        · have hljI : (k : Int) ≤ (j : Int) := by omega
          have hjk : j = k := by omega
          subst hjk
          as_aux_lemma =>
          have hdr : fl (xs.drop j) = [] := by rw [List.drop_of_length_le (by rw [HXL.out]; exact Nat.le_refl _)]; rfl
          rw [hdr] at HRD
          clear hdr hlow
          go_wp2_with fail
          refine (end_any gr gq [] 0 wr HRD.out (by simp)).mono ?_
          rintro y w2 ⟨rfl, hc2, hr2⟩
          rw [show endE [] 0 = 0 from rfl] at hr2 ⊢
          have HR2 := Lib.hid hr2
          have HL2 := Lib.hid (HLO.out.trans (hc2.below HGR.out HLO.out.size))
          clear hc2 hr2
          go_wp2_with fail
          refine (from_any gr gq ⟨[], 0⟩ w2 HR2.out ⟨(fun _ h => by cases h), by simp⟩).mono ?_
          rintro y w3 ⟨vl3, vn3, g3, rfl, ol3, on3, hc3, hr3⟩
          have hb := rd_bad (r := ⟨[], 0⟩) (by rw [nil_e]; decide)
          rw [nil_e] at hb
          have he3 := hb.2.1
          rw [hb.2.2] at ol3 on3
          rw [hb.1, hb.2.2]
          obtain ⟨pl3, cl3, rfl⟩ := ol3.form
          obtain ⟨pn3, cn3, rfl⟩ := on3.form
          have HG3 := Lib.hid (rdR_good (r := ⟨[], 0⟩) ⟨(fun _ h => by cases h), by simp⟩)
          generalize rdR ⟨[], 0⟩ = r3 at *
          have HE3 := Lib.hid he3
          have HR3 := Lib.hid hr3
          have HL3 := Lib.hid (HL2.out.trans (hc3.below HGR.out HL2.out.size))
          unfold msg0 Msg.v
          dsimp only
          clear hb he3 ol3 on3 hc3 hr3
          go_wp2_with fail
          refine (from_any gr g3 r3 _ (HR3.out.below (oneB w3 _)) HG3.out).mono ?_
          rintro y w4 ⟨vl4, vn4, g4, rfl, ol4, on4, hc4, hr4⟩
          have hne : r3.e ≠ 0 := by rw [HE3.out]; decide
          have hb := rd_bad (r := r3) (by rw [nx_stay hne]; exact hne)
          rw [nx_stay hne, HE3.out] at hb
          rw [hb.2.2] at ol4 on4
          rw [hb.1, hb.2.2]
          obtain ⟨pl4, cl4, rfl⟩ := ol4.form
          obtain ⟨pn4, cn4, rfl⟩ := on4.form
          have hgl := HR3.out.lt
          have hx4 := ((Blk.new w3 #[.int .i64 0, .int .i64 0, .int .i64 0, .int .i64 0, .int .i64 0, .int .i64 0, .int .i64 0, .int .i64 0, .bool false, .slice pl3 0 cl3, .slice pn3 0 cn3] 28).chg hc4 (by omega)).alloc (.cells #[.int .i64 0, .int .i64 0, .int .i64 0, .int .i64 0, .int .i64 0, .int .i64 0, .int .i64 0, .int .i64 0, .bool false, .slice pl4 0 cl4, .slice pn4 0 cn4] 28)
          have hB3 := HL3.out.alloc HL3.out.size (.cells #[.int .i64 0, .int .i64 0, .int .i64 0, .int .i64 0, .int .i64 0, .int .i64 0, .int .i64 0, .int .i64 0, .bool false, .slice pl3 0 cl3, .slice pn3 0 cn3] 28)
          have HL4 := Lib.hid (hB3.trans (hc4.below HGR.out hB3.size))
          have c0 : (w4.alloc (.cells #[.int .i64 0, .int .i64 0, .int .i64 0, .int .i64 0, .int .i64 0, .int .i64 0, .int .i64 0, .int .i64 0, .bool false, .slice pl4 0 cl4, .slice pn4 0 cn4] 28)).cell? ⟨w3.heap.size, 0, none⟩ = some (.int .i64 0) := hx4.cell 0
          unfold msg0 Msg.v
          dsimp only
          clear hb hne ol4 on4 hc4 hr4 hx4 hB3 hgl
          go_wp2_with fail
          go_ret
          exact ⟨rfl, HL4.out.alloc HL4.out.size _⟩
end Go.Proofs.Ytengkgpobckhjaa
