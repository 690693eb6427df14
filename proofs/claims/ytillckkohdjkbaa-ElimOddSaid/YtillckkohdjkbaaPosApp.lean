/- The call's own slices of three-cell structs; append; Grow and Concat of slices of positions. -/
import Derived.Test.YtillckkohdjkbaaPosRow
import Derived.Test.YtillckkohdjkbaaApp
import Derived.Lib.AppendZeros
namespace Go.Proofs.Ytillckkohdjkbaa
open Go.RowKit
def OwnP (w : World) (base : Nat) (e : TypeId) (v : Value) (ps : List Pos) : Prop := w.ownsRow base e 3 v ps.length (cellsOf ps)
def posCell (p : Pos) : Nat → Value
  | 0 => .int .i64 p.e
  | 1 => .int .i64 p.c
  | _ => .int .i64 p.a
theorem cellsOf_get : ∀ (ps : List Pos) (i t : Nat) (hi : i < ps.length), t < 3 → (cellsOf ps)[i * 3 + t]? = some (posCell ps[i] t)
  | p :: ps, 0, t, _, ht => by
    match t, ht with
    | 0, _ => rfl
    | 1, _ => rfl
    | 2, _ => rfl
  | p :: ps, i + 1, t, hi, ht => by
    have := cellsOf_get ps i t (by simpa using hi) ht
    rw [show (i + 1) * 3 + t = (i * 3 + t) + 1 + 1 + 1 by omega]
    simpa [cellsOf, Pos.cells] using this
theorem cellsOf_onecell (ps : List Pos) : ∀ u ∈ cellsOf ps, u.oneCell' = true := by
  intro u hu
  obtain ⟨p, _, hp⟩ := List.mem_flatMap.1 hu
  simp only [Pos.cells, List.mem_cons, List.not_mem_nil, or_false] at hp
  rcases hp with rfl | rfl | rfl <;> rfl
theorem OwnP.form {w : World} {base : Nat} {e : TypeId} {v : Value} {ps : List Pos} (h : OwnP w base e v ps) : ∃ p c, v = .slice p ps.length c := by
  obtain ⟨_, h⟩ := h
  rcases h with ⟨rfl, h0⟩ | ⟨g, cap, cur, rfl, _⟩
  · exact ⟨none, 0, by rw [h0]⟩
  · exact ⟨_, _, rfl⟩
theorem OwnP.nil_ (w : World) (base : Nat) (e : TypeId) : OwnP w base e (.slice none 0 0) [] := ⟨by simp [cellsOf], .inl ⟨rfl, rfl⟩⟩
theorem OwnP.block_ge {w : World} {base : Nat} {e : TypeId} {v : Value} {ps : List Pos} (h : OwnP w base e v ps) : ∀ g, v.ownBlock = some g → base ≤ g := by
  intro g hg
  rcases h.2 with ⟨rfl, _⟩ | ⟨g', cap, cur, rfl, hb, _⟩
  · cases hg
  · cases hg; exact hb
theorem OwnP.lt {w : World} {base : Nat} {e : TypeId} {v : Value} {ps : List Pos} (h : OwnP w base e v ps) : ∀ g, v.ownBlock = some g → g < w.heap.size := fun g hg => (World.ownsRow.lt h g hg).2
theorem OwnP.later {w w' : World} {base : Nat} {e : TypeId} {v : Value} {ps : List Pos} (h : OwnP w base e v ps) (hb : Below w.heap.size w w') : OwnP w' base e v ps := by
  have hl := h.lt
  refine ⟨h.1, ?_⟩
  rcases h.2 with h | ⟨g, cap, cur, rfl, hbg, hg, hr⟩
  · exact .inl h
  · exact .inr ⟨g, cap, cur, rfl, hbg, (hb.block g (hl g rfl)).trans hg, hr⟩
theorem OwnP.row {w : World} {base : Nat} {e : TypeId} {v : Value} {ps : List Pos} (h : OwnP w base e v ps) : PRow w v ps := by
  obtain ⟨hl, h⟩ := h
  rcases h with ⟨rfl, h0⟩ | ⟨g, cap, cur, rfl, _, hg, hn, _, _, ht⟩
  · have : ps = [] := List.length_eq_zero_iff.mp h0
    subst this
    exact PRow.nil_ w
  · have hcell : ∀ i (hi : i < ps.length) t, t < 3 → w.cell? ⟨g, 0 + i * 3 + t, none⟩ = some (posCell ps[i] t) := by
      intro i hi t ht3
      rw [Nat.zero_add, cell_of_row w g _ cur e (0, 0) hg]
      have h1 := congrArg (fun l => l[i * 3 + t]?) ht
      simp only [List.getElem?_take] at h1
      rw [if_pos (by omega), cellsOf_get ps i t hi ht3] at h1
      simpa using h1
    refine ⟨_, cap, rfl, hn, .inr ⟨g, 0, rfl, lt_of_block hg, fun i hi => ⟨?_, ?_, ?_⟩⟩⟩
    · exact hcell i hi 0 (by omega)
    · exact hcell i hi 1 (by omega)
    · exact hcell i hi 2 (by omega)
theorem PRow.newsAt {w : World} {a : Addr} {n c : Nat} {ps : List Pos} (h : PRow w (.slice (some a) n c) ps) : ∀ (j : Nat) (u : Value), (cellsOf ps)[j]? = some u → w.cell? (a.add j) = some u := by
  intro j u hj
  have hjl : j < ps.length * 3 := by
    rcases Nat.lt_or_ge j (ps.length * 3) with h | h
    · exact h
    · rw [List.getElem?_eq_none (by rw [cellsOf_length]; exact h)] at hj; cases hj
  have hi : j / 3 < ps.length := by omega
  obtain ⟨b, o, e, _, h0, h1, h2⟩ := h.at_ (j / 3) hi
  cases e
  have hj2 := cellsOf_get ps (j / 3) (j % 3) hi (by omega)
  rw [show j / 3 * 3 + j % 3 = j by omega, hj] at hj2
  have e2 := Option.some.inj hj2
  rw [addAt, e2]
  rcases (show j % 3 = 0 ∨ j % 3 = 1 ∨ j % 3 = 2 by omega) with h | h | h <;> rw [h]
  · rw [show o + j = o + j / 3 * 3 by omega]; exact h0
  · rw [show o + j = o + j / 3 * 3 + 1 by omega]; exact h1
  · rw [show o + j = o + j / 3 * 3 + 2 by omega]; exact h2
def zeroP : Value := .agg #[.int .i64 0, .int .i64 0, .int .i64 0]
def EltP (P : Program) (t e : TypeId) : Prop := ∃ i, P.underlying t = some (.slice e) ∧ P.info? e = some i ∧ i.zero = some zeroP ∧ i.size = 3 ∧ i.bytes = 24
theorem eltP_mk {P : Program} {t e : TypeId} (ht : P.underlying t = some (.slice e)) (h : (P.info? e).map (fun i => (i.zero, i.size, i.bytes)) = some (some zeroP, 3, 24)) : EltP P t e := by
  cases hi : P.info? e with
  | none => rw [hi] at h; cases h
  | some i =>
    rw [hi] at h
    simp only [Option.map_some, Option.some.injEq, Prod.mk.injEq] at h
    exact ⟨i, ht, hi, h.1, h.2.1, h.2.2⟩
theorem run_append_pos {P : Program} (w : World) (t ty e : TypeId) (base : Nat) (he : EltP P t e) (v y : Value) (ps qs : List Pos) (hown : OwnP w base e v ps) (hrow : PRow w y qs)
    (h63 : ps.length + qs.length ≤ 1000000) (hbase : base ≤ w.heap.size) :
    ∃ v' w', (Builtin.append_ #[t, t] ty #[v, y]).run P w = .ok v' w' ∧ OwnP w' base e v' (ps ++ qs) ∧ Below base w w' := by
  obtain ⟨i, ht, hi, hz, hs, hby⟩ := he
  obtain ⟨p, c, rfl, hc, hr⟩ := id hrow
  cases p with
  | some ad =>
    obtain ⟨v', w', hrun, hown', hg, _⟩ := run_append_own_at (P := P) w base t ty e i zeroP 3 24 ht hi hz hs hby rfl (by decide) v ps.length (cellsOf ps) hown ad qs.length c (cellsOf qs) (cellsOf_length qs) hrow.newsAt (cellsOf_onecell qs) (by unfold maxLen; omega) (by omega) hbase
    refine ⟨v', w', hrun, ?_, (Below.refl _ _).grown hg hbase (fun g hg' => hown.block_ge g hg')⟩
    unfold OwnP
    rw [cellsOf_app, List.length_append]
    exact hown'
  | none =>
    have hy : qs = [] := by
      rcases hr with h | ⟨b, o, h, _⟩
      · exact h
      · cases h
    subst hy
    refine ⟨v, w, ?_, by simpa using hown, Below.refl _ _⟩
    rcases hown.2 with ⟨rfl, h0⟩ | ⟨g, cap, cur, rfl, _, _, hnc, _⟩
    · simp [Builtin.append_, run_underlying ht, sizeOf, typeInfo, hi, Builtin.lenOf, Builtin.firstCells]
    · simp [Builtin.append_, run_underlying ht, sizeOf, typeInfo, hi, Builtin.lenOf, Builtin.firstCells, hnc, storeCells]
/-- In a plain region. -/
theorem wpList_append_pos {P : Program} {w : World} {ops : Array Oper} {rest : List Oper} {o : Oper} {a : Act} {Q : Exit → Act → World → Prop} (hgd : o.guard = none) (s x : Operand) (t : TypeId)
    (ho : o.op = .call { callee := .builtin .append, args := #[s, x], argTypes := #[t, t] })
    (e : TypeId) (base : Nat) (he : EltP P t e) (v y : Value) (ps qs : List Pos) (hs : a.eval s = v) (hx : a.eval x = y) (hown : OwnP w base e v ps) (hrow : PRow w y qs)
    (h63 : ps.length + qs.length ≤ 1000000) (hbase : base ≤ w.heap.size) (L : List Pos) (N : Nat) (hL : ps ++ qs = L) (hN : L.length = N)
    (h : ∀ p' c' w', OwnP w' base e (.slice p' N c') L → Below base w w' → wpList P ops Q rest (a.put o.dst (.slice p' N c')) w') : wpList P ops Q (o :: rest) a w := by
  subst hL
  subst hN
  refine wpList_plain hgd fun K hK => ?_
  obtain ⟨v', w', hrun, h1, h2⟩ := run_append_pos w t o.type e base he v y ps qs hown hrow h63 hbase
  unfold Oper.wp
  obtain ⟨p', c', rfl⟩ := h1.form
  simp [execOp, ho, resolve, invoke, builtin, hs, hx, hrun, Result.andThen]
  exact hK _ _ (by simpa using h p' c' w' h1 h2)
theorem elt_pos : EltP Try.prog 48 77 := eltP_mk Try.underlying48 (by kernel_rfl)
set_option maxHeartbeats 1000000 in
set_option maxRecDepth 100000 in
theorem growP_nil (n : Nat) (w : World) (hn : n ≤ 1000000) :
    Calls Try.prog 59 #[.slice none 0 0, .int .i64 n] w fun e w' => ∃ v, e = .returned v ∧ OwnP w' w.heap.size 77 v [] ∧ Below w.heap.size w w' := by
  obtain ⟨i0, _, hi, hz, hs, hby⟩ := elt_pos
  by_cases h0 : n = 0
  · subst h0
    go_enter Try.func59, Try.ntmps59
    go_wp2
    go_ret
    exact ⟨_, rfl, OwnP.nil_ _ _ _, Below.refl _ _⟩
  · have hpos : (0 : Int) < (n : Int) := by omega
    have happ := Lib.run_append_nil_zeros (P := Try.prog) w 48 3 48 77 i0 zeroP .i64 .i64 Try.underlying48 Try.underlying3 hi hz n (by omega) (by omega) (by omega) (by rw [hby]; omega)
    generalize hcap : grownCap w n 0 77 = cap2 at happ
    have hcapge : n ≤ cap2 := by rw [← hcap]; exact grownCap_ge w _ 0 77
    have hcaple : cap2 ≤ maxLen := by rw [← hcap]; exact grownCap_le_maxLen w _ 0 77 (by unfold maxLen; omega)
    generalize hZ : (Builtin.zeroCells zeroP.cells n ++ Builtin.zeroCells zeroP.cells (cap2 - n)) = Z at happ
    have hZs : Z.size = cap2 * 3 := by rw [← hZ]; simp [Builtin.zeroCells, Value.cells, zeroP]; omega
    clear hcap hZ h0
    have HG := Lib.hid hcapge
    have HL := Lib.hid hcaple
    have HS := Lib.hid hZs
    clear hcapge hcaple hZs
    go_enter Try.func59, Try.ntmps59
    go_wp2_with (at_builtin; refine Lib.wpList_append_run _ rfl _ _ _ _ rfl _ _ rfl rfl _ _ happ ?_)
    go_ret
    exact ⟨_, rfl, ⟨by simp [cellsOf], .inr ⟨w.heap.size, cap2, Z, rfl, Nat.le_refl _, heap_alloc_new w.drew _, Nat.zero_le _, HL.out, HS.out, by simp [cellsOf]⟩⟩, (Below.refl _ _).drew.alloc (Nat.le_refl _) _⟩
/-- Slices in a slice: each the address of a row. -/
def RowsP (w : World) (b o : Nat) (vs : List Value) (pss : List (List Pos)) : Prop :=
  vs.length = pss.length ∧ ∀ i, i < pss.length → w.cell? ⟨b, o + i, none⟩ = some (vs.getD i undef) ∧ PRow w (vs.getD i undef) (pss.getD i [])
def catP (pss : List (List Pos)) (k : Nat) : List Pos := (pss.take k).flatten
theorem catP_succ (pss : List (List Pos)) (k : Nat) (h : k < pss.length) : catP pss k ++ pss.getD k [] = catP pss (k + 1) := by
  unfold catP
  rw [List.take_succ_eq_append_getElem h, List.flatten_append, List.getD_eq_getElem?_getD, List.getElem?_eq_getElem h]; simp
theorem catP_len (pss : List (List Pos)) (k : Nat) (h : k < pss.length) : (catP pss (k + 1)).length = (catP pss k).length + (pss.getD k []).length := by rw [← catP_succ pss k h, List.length_append]
theorem catP_le (pss : List (List Pos)) (k : Nat) : (catP pss k).length ≤ pss.flatten.length := by
  unfold catP
  have : pss.flatten = (pss.take k).flatten ++ (pss.drop k).flatten := by rw [← List.flatten_append, List.take_append_drop]
  rw [this, List.length_append]; omega
def CatRelP (w : World) (pss : List (List Pos)) (k : Nat) (v : Value) (wr : World) : Prop := OwnP wr w.heap.size 77 v (catP pss k) ∧ Below w.heap.size w wr
set_option maxHeartbeats 2000000 in
set_option maxRecDepth 100000 in
theorem concatP_any (b o m c : Nat) (vs : List Value) (pss : List (List Pos)) (w : World) (hR : RowsP w b o vs pss) (hm : m = pss.length) (hmc : m ≤ 1000) (hbig : pss.flatten.length ≤ 100000) :
    Calls Try.prog 56 #[.slice (some ⟨b, o, none⟩) m c] w fun e w' => ∃ v, e = .returned v ∧ OwnP w' w.heap.size 77 v pss.flatten ∧ Below w.heap.size w w' := by
  have HR := Lib.hid hR.2
  have HM := Lib.hid hm
  have HSB : Hid (∀ k, (catP pss k).length ≤ 100000) := fun k => Nat.le_trans (catP_le pss k) hbig
  clear hR hm
  go_enter Try.func56, Try.ntmps56
  go_wp2
  go_loop [3, 11] (fun s i => ∃ (k : Nat), k ≤ m ∧ i = .int .i64 k ∧ s = .int .i64 ((catP pss k).length : Nat)) (fun _ i => m - (intOf i).toNat)
  case atStart => exact ⟨0, by omega, rfl, rfl⟩
  case round =>
    obtain ⟨k, hk, rfl, rfl⟩ := hrel
    by_cases hlt : k < m
    · obtain ⟨hc, hrow⟩ := HR.out k (by rw [← HM.out]; exact hlt)
      obtain ⟨p1, c1, hv⟩ := hrow.shape
      rw [hv] at hc
      have hs := Lib.hid (catP_len pss k (by rw [← HM.out]; exact hlt))
      have hsb := HSB.out (k + 1)
      rw [hs.out] at hsb
      clear hv hrow
      generalize (pss.getD k []).length = L at *
      go_wp2
      go_round
      case rel => exact ⟨k + 1, by omega, by go_num, by rw [hs.out]; go_num⟩
      case measure => simp [intOf]; omega
    · have hkm : (m : Int) ≤ (k : Int) := by omega
      have hsb := HSB.out k
      go_wp2_with fail
      refine (growP_nil _ _ (by omega)).mono ?_
      rintro e w1 ⟨v1, rfl, ho1, hb1⟩
      have hstart : CatRelP w pss 0 v1 w1 := ⟨by simpa [catP] using ho1, hb1⟩
      have HST := Lib.hid hstart
      clear hstart ho1 hb1
      go_wp2_with fail
      go_loopw [6, 27] (fun v i wr => ∃ (j : Nat), j ≤ m ∧ i = .int .i64 j ∧ Hid (CatRelP w pss j v wr)) (fun _ i _ => m - (intOf i).toNat)
      case atStart => exact ⟨0, by omega, rfl, HST⟩
      case round =>
        obtain ⟨j, hj, rfl, HJ⟩ := hrel
        by_cases hlt : j < m
        · have hlz : j < pss.length := by rw [← HM.out]; exact hlt
          obtain ⟨hc, hrow⟩ := HR.out j hlz
          obtain ⟨p1, c1, hv⟩ := hrow.shape
          have hbl := World.block_lt_of_cell? w _ hc
          have HRW := Lib.hid hrow
          rw [hv] at hc HRW
          have hcw := (HJ.out.2.cell (p := ⟨b, o + j, none⟩) hbl).trans hc
          have HLEN : Hid ((catP pss j).length + (pss.getD j []).length ≤ 100000) := by have h := HSB.out (j + 1); rw [catP_len pss j hlz] at h; exact h
          have HLZ := Lib.hid hlz
          clear hv hrow hc hbl hlz
          obtain ⟨p0, c0, hv0⟩ := HJ.out.1.form
          have HJ2 := HJ.out
          rw [hv0] at HJ2
          have HJ3 := Lib.hid HJ2
          subst hv0
          clear HJ2
          go_wp2_with (at_builtin; go_loud (refine wpList_append_pos rfl _ _ 48 rfl 77 w.heap.size elt_pos _ _ (catP pss j) (pss.getD j []) rfl rfl HJ3.out.1 (HRW.out.kept (HJ3.out.2)) (by have h : _ ≤ _ := HLEN.out; omega) HJ3.out.2.size (catP pss (j + 1)) ((catP pss (j + 1)).length) (catP_succ pss j HLZ.out) rfl ?_; intro p2 c2 w2 ho2 hb2; have HN := Lib.hid (show CatRelP w pss (j + 1) _ w2 from ⟨ho2, HJ3.out.2.trans hb2⟩); clear ho2 hb2))
          go_roundw
          case rel => exact ⟨j + 1, by omega, by go_num, HN⟩
          case measure => simp [intOf]; omega
        · have hjm : (m : Int) ≤ (j : Int) := by omega
          have hjz : j = pss.length := by rw [← HM.out]; omega
          have hE := HJ.out
          rw [hjz] at hE
          have HE := Lib.hid hE
          clear hjz hE
          go_wp2
          go_ret
          exact ⟨_, rfl, by have := HE.out.1; unfold catP at this; rwa [List.take_length] at this, HE.out.2⟩
end Go.Proofs.Ytillckkohdjkbaa
