/- (book.Book).Expect of an order that it refuses. match: what a desk does, as functions of its items and orders. match.Desk's other acts by contract: dispute, issue, due, propose, order. match.Desk's propose by contract. -/
import Derived.Test.YtbpfbebebppleaaMatchD
import Derived.Test.YtbpfbebebppleaaMatchBeh
import Derived.Test.YtbpfbebebppleaaItemNew
namespace Go.Proofs.Ytbpfbebebppleaa
open Go.RowKit
def buysOk (me s n : Int) : Prop := 0 ≤ s ∧ s < 8 ∧ s ≠ me ∧ 1 ≤ n ∧ n ≤ 1048576
instance (me s n : Int) : Decidable (buysOk me s n) := by unfold buysOk; infer_instance
set_option linter.unusedSimpArgs false in
set_option maxHeartbeats 4000000 in
set_option maxRecDepth 100000 in
theorem buys_no (w : World) (me : Int) (pi po : Option Addr) (ni ci no co : Nat) (s n : Int) (h : ¬ buysOk me s n) : Calls Try.prog 68 #[bookV me (.slice pi ni ci) (.slice po no co), idV s n] w fun e w' => e = .returned (.bool false) ∧ Below w.heap.size w w' := by
  unfold bookV idV
  by_cases h1 : (0 : Int) ≤ s
  · by_cases h2 : s < 8
    · by_cases h3 : s = me
      · have h3' : (s != me) = false := by simpa using h3
        clear h h3
        go_enter Try.func68, Try.ntmps68
        go_wp2
        go_ret
        exact ⟨rfl, (oneB w _).alloc (by simp) _⟩
      · have h3' : (s != me) = true := by simpa using h3
        by_cases h4 : (1 : Int) ≤ n
        · have h5 : ¬ n ≤ 1048576 := fun h5 => h ⟨h1, h2, h3, h4, h5⟩
          clear h h3
          go_enter Try.func68, Try.ntmps68
          go_wp2
          go_ret
          exact ⟨rfl, (oneB w _).alloc (by simp) _⟩
        · clear h h3
          go_enter Try.func68, Try.ntmps68
          go_wp2
          go_ret
          exact ⟨rfl, (oneB w _).alloc (by simp) _⟩
    · clear h
      go_enter Try.func68, Try.ntmps68
      go_wp2
      go_ret
      exact ⟨rfl, (oneB w _).alloc (by simp) _⟩
  · clear h
    go_enter Try.func68, Try.ntmps68
    go_wp2
    go_ret
    exact ⟨rfl, (oneB w _).alloc (by simp) _⟩
set_option linter.unusedSimpArgs false in
set_option maxHeartbeats 4000000 in
set_option maxRecDepth 100000 in
theorem expect_buys (w : World) (me : Int) (pi po : Option Addr) (ni ci no co : Nat) (s n a : Int) (h : ¬ buysOk me s n) :
    Calls Try.prog 54 #[bookV me (.slice pi ni ci) (.slice po no co), idV s n, .int .i64 a] w fun e w' => e = .returned (.tuple #[bookV me (.slice pi ni ci) (.slice po no co), .int .i64 1]) ∧ Below w.heap.size w w' := by
  have HBY := Lib.hid (fun (W : World) => buys_no W me pi po ni ci no co s n h)
  unfold idV bookV at *
  clear h
  go_enter Try.func54, Try.ntmps54
  go_wp2_with fail
  generalize hW1 : ((w.alloc (.cells #[.int .i64 me, .slice pi ni ci, .slice po no co] 27)).alloc (.cells #[.int .i64 s, .int .i64 n] 36)).alloc (.cells #[.int .i64 0, .slice none 0 0, .slice none 0 0] 27) = W1
  have HB1 : Hid (Below w.heap.size w W1) := by show Below _ _ _; rw [← hW1]; exact ((oneB w _).alloc (by simp) _).alloc (by simp <;> omega) _
  have HK1 : Hid (Blk W1 w.heap.size #[.int .i64 me, .slice pi ni ci, .slice po no co] 27) := by show Blk _ _ _ _; rw [← hW1]; exact ((Blk.new w _ _).alloc _).alloc _
  have HX1 : Hid (Blk W1 (w.heap.size + 1) #[.int .i64 s, .int .i64 n] 36) := by show Blk _ _ _ _; rw [← hW1]; exact (Blk.new' _ _ _ (by simp)).alloc _
  have HR1 : Hid (Blk W1 (w.heap.size + 1 + 1) #[.int .i64 0, .slice none 0 0, .slice none 0 0] 27) := by show Blk _ _ _ _; rw [← hW1]; exact Blk.new' _ _ _ (by simp)
  clear hW1
  refine (HBY.out _).mono ?_
  rintro y w2 ⟨rfl, hb2⟩
  have HK2 := Lib.hid (HK1.out.below hb2 HK1.out.lt)
  have HX2 := Lib.hid (HX1.out.below hb2 HX1.out.lt)
  have HR2 := Lib.hid (HR1.out.below hb2 HR1.out.lt)
  have HB2 := Lib.hid (HB1.out.trans (hb2.mono HB1.out.size))
  clear HBY hb2 HK1 HX1 HR1
  have b0 : w2.cell? ⟨w.heap.size, 0, none⟩ = some (.int .i64 me) := HK2.out.cell 0
  have b1 : w2.cell? ⟨w.heap.size, 1, none⟩ = some (.slice pi ni ci) := HK2.out.cell 1
  have b2 : w2.cell? ⟨w.heap.size, 2, none⟩ = some (.slice po no co) := HK2.out.cell 2
  have r0 : w2.cell? ⟨w.heap.size + 1 + 1, 0, none⟩ = some (.int .i64 0) := HR2.out.cell 0
  have r1 : w2.cell? ⟨w.heap.size + 1 + 1, 1, none⟩ = some (.slice none 0 0) := HR2.out.cell 1
  have r2 : w2.cell? ⟨w.heap.size + 1 + 1, 2, none⟩ = some (.slice none 0 0) := HR2.out.cell 2
  have fr0 := HR2.out.free 0
  have fr1 := HR2.out.free 1
  have fr2 := HR2.out.free 2
  go_wp2_with fail
  have hf := ((HR2.out.set 0 (.int .i64 me)).set 1 (.slice pi ni ci)).set 2 (.slice po no co)
  have hB := HB2.out.setCell (p := ⟨w.heap.size + 1 + 1, 0, none⟩) (by show w.heap.size ≤ w.heap.size + 1 + 1; omega) (.int .i64 me) |>.setCell (p := ⟨w.heap.size + 1 + 1, 1, none⟩) (by show w.heap.size ≤ w.heap.size + 1 + 1; omega) (.slice pi ni ci) |>.setCell (p := ⟨w.heap.size + 1 + 1, 2, none⟩) (by show w.heap.size ≤ w.heap.size + 1 + 1; omega) (.slice po no co)
  refine bodyPost_ret (v := .tuple #[.agg #[.int .i64 me, .slice pi ni ci, .slice po no co], .int .i64 1]) (by simp [results, Try.results54, go_sem, hf.cell 0, hf.cell 1, hf.cell 2]) rfl ⟨rfl, hB⟩
set_option linter.unusedSimpArgs false in
set_option maxHeartbeats 4000000 in
set_option maxRecDepth 100000 in
theorem expect_low (w : World) (me : Int) (pi po : Option Addr) (ni ci no co : Nat) (s n a : Int) (h : buysOk me s n) (h1 : a < 1) :
    Calls Try.prog 54 #[bookV me (.slice pi ni ci) (.slice po no co), idV s n, .int .i64 a] w fun e w' => e = .returned (.tuple #[bookV me (.slice pi ni ci) (.slice po no co), .int .i64 1]) ∧ Below w.heap.size w w' := by
  have HBY := Lib.hid (fun (W : World) => buys_any W me pi po ni ci no co s n h)
  unfold idV bookV at *
  clear h
  go_enter Try.func54, Try.ntmps54
  go_wp2_with fail
  generalize hW1 : ((w.alloc (.cells #[.int .i64 me, .slice pi ni ci, .slice po no co] 27)).alloc (.cells #[.int .i64 s, .int .i64 n] 36)).alloc (.cells #[.int .i64 0, .slice none 0 0, .slice none 0 0] 27) = W1
  have HB1 : Hid (Below w.heap.size w W1) := by show Below _ _ _; rw [← hW1]; exact ((oneB w _).alloc (by simp) _).alloc (by simp <;> omega) _
  have HK1 : Hid (Blk W1 w.heap.size #[.int .i64 me, .slice pi ni ci, .slice po no co] 27) := by show Blk _ _ _ _; rw [← hW1]; exact ((Blk.new w _ _).alloc _).alloc _
  have HX1 : Hid (Blk W1 (w.heap.size + 1) #[.int .i64 s, .int .i64 n] 36) := by show Blk _ _ _ _; rw [← hW1]; exact (Blk.new' _ _ _ (by simp)).alloc _
  have HR1 : Hid (Blk W1 (w.heap.size + 1 + 1) #[.int .i64 0, .slice none 0 0, .slice none 0 0] 27) := by show Blk _ _ _ _; rw [← hW1]; exact Blk.new' _ _ _ (by simp)
  clear hW1
  refine (HBY.out _).mono ?_
  rintro y w2 ⟨rfl, hb2⟩
  have HK2 := Lib.hid (HK1.out.below hb2 HK1.out.lt)
  have HX2 := Lib.hid (HX1.out.below hb2 HX1.out.lt)
  have HR2 := Lib.hid (HR1.out.below hb2 HR1.out.lt)
  have HB2 := Lib.hid (HB1.out.trans (hb2.mono HB1.out.size))
  clear HBY hb2 HK1 HX1 HR1
  have b0 : w2.cell? ⟨w.heap.size, 0, none⟩ = some (.int .i64 me) := HK2.out.cell 0
  have b1 : w2.cell? ⟨w.heap.size, 1, none⟩ = some (.slice pi ni ci) := HK2.out.cell 1
  have b2 : w2.cell? ⟨w.heap.size, 2, none⟩ = some (.slice po no co) := HK2.out.cell 2
  have r0 : w2.cell? ⟨w.heap.size + 1 + 1, 0, none⟩ = some (.int .i64 0) := HR2.out.cell 0
  have r1 : w2.cell? ⟨w.heap.size + 1 + 1, 1, none⟩ = some (.slice none 0 0) := HR2.out.cell 1
  have r2 : w2.cell? ⟨w.heap.size + 1 + 1, 2, none⟩ = some (.slice none 0 0) := HR2.out.cell 2
  have fr0 := HR2.out.free 0
  have fr1 := HR2.out.free 1
  have fr2 := HR2.out.free 2
  go_wp2_with fail
  have hf := ((HR2.out.set 0 (.int .i64 me)).set 1 (.slice pi ni ci)).set 2 (.slice po no co)
  have hB := HB2.out.setCell (p := ⟨w.heap.size + 1 + 1, 0, none⟩) (by show w.heap.size ≤ w.heap.size + 1 + 1; omega) (.int .i64 me) |>.setCell (p := ⟨w.heap.size + 1 + 1, 1, none⟩) (by show w.heap.size ≤ w.heap.size + 1 + 1; omega) (.slice pi ni ci) |>.setCell (p := ⟨w.heap.size + 1 + 1, 2, none⟩) (by show w.heap.size ≤ w.heap.size + 1 + 1; omega) (.slice po no co)
  refine bodyPost_ret (v := .tuple #[.agg #[.int .i64 me, .slice pi ni ci, .slice po no co], .int .i64 1]) (by simp [results, Try.results54, go_sem, hf.cell 0, hf.cell 1, hf.cell 2]) rfl ⟨rfl, hB⟩
set_option linter.unusedSimpArgs false in
set_option maxHeartbeats 4000000 in
set_option maxRecDepth 100000 in
theorem expect_high (w : World) (me : Int) (pi po : Option Addr) (ni ci no co : Nat) (s n a : Int) (h : buysOk me s n) (h1 : 1125899906842624 < a) :
    Calls Try.prog 54 #[bookV me (.slice pi ni ci) (.slice po no co), idV s n, .int .i64 a] w fun e w' => e = .returned (.tuple #[bookV me (.slice pi ni ci) (.slice po no co), .int .i64 1]) ∧ Below w.heap.size w w' := by
  have HBY := Lib.hid (fun (W : World) => buys_any W me pi po ni ci no co s n h)
  unfold idV bookV at *
  have h2 : ¬ a < 1 := by omega
  clear h
  go_enter Try.func54, Try.ntmps54
  go_wp2_with fail
  generalize hW1 : ((w.alloc (.cells #[.int .i64 me, .slice pi ni ci, .slice po no co] 27)).alloc (.cells #[.int .i64 s, .int .i64 n] 36)).alloc (.cells #[.int .i64 0, .slice none 0 0, .slice none 0 0] 27) = W1
  have HB1 : Hid (Below w.heap.size w W1) := by show Below _ _ _; rw [← hW1]; exact ((oneB w _).alloc (by simp) _).alloc (by simp <;> omega) _
  have HK1 : Hid (Blk W1 w.heap.size #[.int .i64 me, .slice pi ni ci, .slice po no co] 27) := by show Blk _ _ _ _; rw [← hW1]; exact ((Blk.new w _ _).alloc _).alloc _
  have HX1 : Hid (Blk W1 (w.heap.size + 1) #[.int .i64 s, .int .i64 n] 36) := by show Blk _ _ _ _; rw [← hW1]; exact (Blk.new' _ _ _ (by simp)).alloc _
  have HR1 : Hid (Blk W1 (w.heap.size + 1 + 1) #[.int .i64 0, .slice none 0 0, .slice none 0 0] 27) := by show Blk _ _ _ _; rw [← hW1]; exact Blk.new' _ _ _ (by simp)
  clear hW1
  refine (HBY.out _).mono ?_
  rintro y w2 ⟨rfl, hb2⟩
  have HK2 := Lib.hid (HK1.out.below hb2 HK1.out.lt)
  have HX2 := Lib.hid (HX1.out.below hb2 HX1.out.lt)
  have HR2 := Lib.hid (HR1.out.below hb2 HR1.out.lt)
  have HB2 := Lib.hid (HB1.out.trans (hb2.mono HB1.out.size))
  clear HBY hb2 HK1 HX1 HR1
  have b0 : w2.cell? ⟨w.heap.size, 0, none⟩ = some (.int .i64 me) := HK2.out.cell 0
  have b1 : w2.cell? ⟨w.heap.size, 1, none⟩ = some (.slice pi ni ci) := HK2.out.cell 1
  have b2 : w2.cell? ⟨w.heap.size, 2, none⟩ = some (.slice po no co) := HK2.out.cell 2
  have r0 : w2.cell? ⟨w.heap.size + 1 + 1, 0, none⟩ = some (.int .i64 0) := HR2.out.cell 0
  have r1 : w2.cell? ⟨w.heap.size + 1 + 1, 1, none⟩ = some (.slice none 0 0) := HR2.out.cell 1
  have r2 : w2.cell? ⟨w.heap.size + 1 + 1, 2, none⟩ = some (.slice none 0 0) := HR2.out.cell 2
  have fr0 := HR2.out.free 0
  have fr1 := HR2.out.free 1
  have fr2 := HR2.out.free 2
  go_wp2_with fail
  have hf := ((HR2.out.set 0 (.int .i64 me)).set 1 (.slice pi ni ci)).set 2 (.slice po no co)
  have hB := HB2.out.setCell (p := ⟨w.heap.size + 1 + 1, 0, none⟩) (by show w.heap.size ≤ w.heap.size + 1 + 1; omega) (.int .i64 me) |>.setCell (p := ⟨w.heap.size + 1 + 1, 1, none⟩) (by show w.heap.size ≤ w.heap.size + 1 + 1; omega) (.slice pi ni ci) |>.setCell (p := ⟨w.heap.size + 1 + 1, 2, none⟩) (by show w.heap.size ≤ w.heap.size + 1 + 1; omega) (.slice po no co)
  refine bodyPost_ret (v := .tuple #[.agg #[.int .i64 me, .slice pi ni ci, .slice po no co], .int .i64 1]) (by simp [results, Try.results54, go_sem, hf.cell 0, hf.cell 1, hf.cell 2]) rfl ⟨rfl, hB⟩
/-- The orders with one put in. -/
def insO (X : List Ord) (x : Ord) : List Ord := X.filter (fun z => decide (ordP (posO z) (posO x) < 0)) ++ [x] ++ X.filter (fun z => decide (0 < ordP (posO z) (posO x)))
theorem insO_around {X A mid B : List Ord} {x : Ord} (h : AroundF posO (posO x) X A mid B) : A ++ [x] ++ B = insO X x ∧ (insO X x).length ≤ X.length + 1 := by
  have hA : ∀ z ∈ A, ordP (posO z) (posO x) < 0 := fun z hz => h.pos.ahead _ (List.mem_map_of_mem hz)
  have hB : ∀ z ∈ B, 0 < ordP (posO z) (posO x) := fun z hz => h.pos.behind _ (List.mem_map_of_mem hz)
  have hM : ∀ z ∈ mid, ordP (posO z) (posO x) = 0 := fun z hz => by
    rcases h.mid1 with e | ⟨q, e, hq⟩
    · rw [e] at hz; cases hz
    · rw [e] at hz; rw [List.mem_singleton.1 hz]; exact hq
  have f1 : X.filter (fun z => decide (ordP (posO z) (posO x) < 0)) = A := by
    rw [h.all, List.filter_append, List.filter_append, List.filter_eq_self.2 (fun z hz => decide_eq_true (hA z hz)), List.filter_eq_nil_iff.2 (fun z hz => by have := hM z hz; simp; omega), List.filter_eq_nil_iff.2 (fun z hz => by have := hB z hz; simp; omega)]
    simp
  have f2 : X.filter (fun z => decide (0 < ordP (posO z) (posO x))) = B := by
    rw [h.all, List.filter_append, List.filter_append, List.filter_eq_nil_iff.2 (fun z hz => by have := hA z hz; simp; omega), List.filter_eq_nil_iff.2 (fun z hz => by have := hM z hz; simp; omega), List.filter_eq_self.2 (fun z hz => decide_eq_true (hB z hz))]
    simp
  have e : A ++ [x] ++ B = insO X x := by unfold insO; rw [f1, f2]
  refine ⟨e, ?_⟩
  rw [← e, h.all]
  simp
  omega
theorem insO_sorted {X : List Ord} {x : Ord} (hs : SortedP (X.map posO)) : SortedP ((insO X x).map posO) := by
  have hsub : ∀ p : Ord → Bool, SortedP ((X.filter p).map posO) := fun p => List.Pairwise.sublist ((List.filter_sublist).map posO) hs
  unfold SortedP insO
  rw [List.map_append, List.map_append, List.pairwise_append, List.pairwise_append]
  refine ⟨⟨hsub _, by simp, ?_⟩, hsub _, ?_⟩
  · intro a ha b hb
    obtain ⟨z, hz, rfl⟩ := List.mem_map.1 ha
    have hb2 : b = posO x := by simpa using hb
    subst hb2
    exact of_decide_eq_true (List.mem_filter.1 hz).2
  · intro a ha b hb
    obtain ⟨y, hy, rfl⟩ := List.mem_map.1 hb
    have hyx : 0 < ordP (posO y) (posO x) := of_decide_eq_true (List.mem_filter.1 hy).2
    rcases List.mem_append.1 ha with ha | ha
    · obtain ⟨z, hz, rfl⟩ := List.mem_map.1 ha
      have hzx : ordP (posO z) (posO x) < 0 := of_decide_eq_true (List.mem_filter.1 hz).2
      rw [ordP_lt] at hzx ⊢
      rw [ordP_gt] at hyx
      omega
    · have ha2 : a = posO x := by simpa using ha
      subst ha2
      rw [ordP_gt] at hyx
      rw [ordP_lt]
      omega
/-- What Expect makes of the orders, and its error. -/
def expO (me : Int) (os : List Ord) (s n a : Int) : List Ord × Int := if buysOk me s n ∧ 1 ≤ a ∧ a ≤ 1125899906842624 then (insO os ⟨s, n, a⟩, 0) else (os, 1)
theorem expect_any (w : World) (me : Int) (pi po : Option Addr) (ni ci co : Nat) (s n a : Int) (os : List Ord) (P : Nat → Prop) (hr : TRow encO w (.slice po os.length co) os) (hs : SortedP (os.map posO)) (hn : os.length < 1024) (hat : At P (.slice po os.length co) os.length) :
    Calls Try.prog 54 #[bookV me (.slice pi ni ci) (.slice po os.length co), idV s n, .int .i64 a] w fun e w' => ∃ po' co', e = .returned (.tuple #[bookV me (.slice pi ni ci) (.slice po' (expO me os s n a).1.length co'), .int .i64 (expO me os s n a).2]) ∧ TRow encO w' (.slice po' (expO me os s n a).1.length co') (expO me os s n a).1 ∧ At (fun b => P b ∨ w.heap.size ≤ b) (.slice po' (expO me os s n a).1.length co') (expO me os s n a).1.length ∧ Below w.heap.size w w' := by
  unfold expO
  by_cases hb : buysOk me s n
  · by_cases h1 : a < 1
    · rw [if_neg (by rintro ⟨_, h, _⟩; omega)]
      refine (expect_low w me pi po ni ci os.length co s n a hb h1).mono ?_
      rintro e w' ⟨rfl, hb⟩
      exact ⟨po, co, rfl, hr.kept hb, hat.imp (fun _ h => .inl h), hb⟩
    · by_cases h2 : 1125899906842624 < a
      · rw [if_neg (by rintro ⟨_, _, h⟩; omega)]
        refine (expect_high w me pi po ni ci os.length co s n a hb h2).mono ?_
        rintro e w' ⟨rfl, hb⟩
        exact ⟨po, co, rfl, hr.kept hb, hat.imp (fun _ h => .inl h), hb⟩
      · rw [if_pos ⟨hb, by omega, by omega⟩]
        obtain ⟨A, mid, B, hA⟩ := aroundF_of_sorted posO ⟨s, n, 0⟩ os hs
        have hins := (insO_around (x := ⟨s, n, a⟩) hA).1
        have own : ∀ e w', (∃ po' no' co', e = Ending.returned (.tuple #[.agg #[.int .i64 me, .slice pi ni ci, .slice po' no' co'], .int .i64 0]) ∧ OwnT encO w' w.heap.size 92 (.slice po' no' co') (A ++ [⟨s, n, a⟩] ++ B) ∧ Below w.heap.size w w') → ∃ po' co', e = .returned (.tuple #[bookV me (.slice pi ni ci) (.slice po' (insO os ⟨s, n, a⟩).length co'), .int .i64 0]) ∧ TRow encO w' (.slice po' (insO os ⟨s, n, a⟩).length co') (insO os ⟨s, n, a⟩) ∧ At (fun b => P b ∨ w.heap.size ≤ b) (.slice po' (insO os ⟨s, n, a⟩).length co') (insO os ⟨s, n, a⟩).length ∧ Below w.heap.size w w' := by
          rintro e w' ⟨po', no', co', rfl, ho, hb⟩
          rw [hins] at ho
          obtain ⟨p, c, e1⟩ := ho.form
          cases e1
          exact ⟨_, _, rfl, ho.row, ho.at_P (fun b hb => .inr hb), hb⟩
        rcases hA.mid1 with rfl | ⟨q, rfl, _⟩
        · exact (expect_new w me pi po ni ci os.length co s n a os A B hr rfl hA (by omega) hb ⟨by omega, by omega⟩ hn).mono own
        · exact (expect_found w me pi po ni ci os.length co s n a os A B q hr rfl hA (by omega) hb ⟨by omega, by omega⟩).mono own
  · rw [if_neg (by rintro ⟨h, _⟩; exact hb h)]
    refine (expect_buys w me pi po ni ci os.length co s n a hb).mono ?_
    rintro e w' ⟨rfl, hb⟩
    exact ⟨po, co, rfl, hr.kept hb, hat.imp (fun _ h => .inl h), hb⟩
end Go.Proofs.Ytbpfbebebppleaa
namespace Go.Proofs.Ytbpfbebebppleaa
open Go.RowKit
/-- The desk with an item that came without an error, and what is said about it. -/
def Dsk.beh (d : Dsk) (r : Itm × Int) (ks : List Int) : Dsk × List (Int × Msg) × Int :=
  if r.2 = 0 then (d.put r.1, ks.map (fun k => (toI d.me r.1, aboutM k r.1)), 0) else (d, [], r.2)
def issueI (d : Dsk) (m : Msg) : Itm × Int :=
  if m.s ≠ d.me then (itm0, 140) else if (findX d.xs m.s m.n).isSome then (itm0, 5) else newA (newI m.s m.n m.b m.c m.a)
def dueI (d : Dsk) (m : Msg) : Itm × Int :=
  if (soldA d m.s m.n).2 = 0 ∧ (soldA d m.s m.n).1.r ≠ m.r then (itm0, 90) else thenA (soldA d m.s m.n) (fun x => turnI x 2 4)
def dispI (d : Dsk) (m : Msg) (fro : Int) : Itm × Int := thenA (betwA d m.s m.n m.r d.me fro) (fun x => turnI x 1 2)
def dispR (r : Itm × Int) : Itm × Int := if r.2 ≠ 0 ∨ r.1.r < 3 then r else turnI r.1 2 4
def dispK (r : Itm × Int) : List Int := if r.2 ≠ 0 ∨ r.1.r < 3 then [] else [9]
def proI (d : Dsk) (m : Msg) (fro : Int) : Itm × Int :=
  if chkI (itemM m) ≠ 0 then (itm0, chkI (itemM m)) else if m.s ≠ fro ∨ m.b ≠ d.me then (itm0, 140) else if followsB d (itemM m) = false then (itm0, 90)
  else if expectsB d (itemM m) = true then turnI (itemM m) 1 3 else turnI (itemM m) 1 2
def proK (d : Dsk) (m : Msg) : List Int := if expectsB d (itemM m) = true then [7] else [8]
def Dsk.exp (d : Dsk) (m : Msg) : Dsk := ⟨d.me, d.far, d.xs, (expO d.me d.os m.s m.n m.a).1⟩
def clientM (d : Dsk) (m : Msg) : Dsk × List (Int × Msg) × Int :=
  if m.k = 1 then d.beh (issueI d m) [6]
  else if m.k = 2 then (d.exp m, [], (expO d.me d.os m.s m.n m.a).2)
  else if m.k = 3 then d.beh (thenA (soldA d m.s m.n) (fun x => adjI x m.a)) [6]
  else if m.k = 4 then d.beh (thenA (soldA d m.s m.n) (fun x => turnI x 2 4)) [9]
  else if m.k = 16 then d.beh (dueI d m) [9]
  else (d, [], 110)
def nodeM (d : Dsk) (m : Msg) (fro : Int) : Dsk × List (Int × Msg) × Int :=
  if m.k = 6 then d.beh (proI d m fro) (proK d m)
  else if m.k = 7 then d.beh (thenA (betwA d m.s m.n m.r d.me fro) (fun x => turnI x 1 3)) []
  else if m.k = 8 then d.beh (dispR (dispI d m fro)) (dispK (dispI d m fro))
  else if m.k = 9 then d.beh (thenA (betwA d m.s m.n m.r fro d.me) (fun x => turnI x 2 4)) []
  else (d, [], 110)
/-- What a desk does at a message: the desk behind it, what is said to whom, the error. -/
def doM (d : Dsk) (m : Msg) (fro : Int) : Dsk × List (Int × Msg) × Int := if fro = -1 then clientM d m else nodeM d m fro
/-- A desk that can be. -/
structure Dsk.Ok (d : Dsk) : Prop where
  me : 0 ≤ d.me ∧ d.me < 8
  far : Fits d.far
  its : ∀ x ∈ d.xs, chkI x = 0 ∧ (x.s = d.me ∨ x.b = d.me)
  os : ∀ o ∈ d.os, Fits o.a
theorem findX_mem {xs : List Itm} {s n : Int} {q : Itm} (h : findX xs s n = some q) : q ∈ xs ∧ q.s = s ∧ q.n = n := by
  unfold findX at h
  have h2 := List.find?_some h
  exact ⟨List.mem_of_find?_eq_some h, of_decide_eq_true h2⟩
theorem turn_chk {x : Itm} {f t : Int} (hft : (f = 1 ∧ t = 2) ∨ (f = 1 ∧ t = 3) ∨ (f = 2 ∧ t = 4)) (h : chkI x = 0) : chkI (turnI x f t).1 = 0 ∧ (turnI x f t).1.s = x.s ∧ (turnI x f t).1.b = x.b := by
  refine ⟨?_, ?_, ?_⟩
  · rcases hft with ⟨rfl, rfl⟩ | ⟨rfl, rfl⟩ | ⟨rfl, rfl⟩
    · exact act_ok 1 0 h
    · exact act_ok 2 0 h
    · exact act_ok 3 0 h
  · unfold turnI; split <;> rfl
  · unfold turnI; split <;> rfl
theorem adj_chk {x : Itm} {n : Int} (h : chkI x = 0) : chkI (adjI x n).1 = 0 ∧ (adjI x n).1.s = x.s ∧ (adjI x n).1.b = x.b := by
  refine ⟨act_ok 4 n h, ?_, ?_⟩
  · unfold adjI; repeat' split
    all_goals rfl
  · unfold adjI; repeat' split
    all_goals rfl
/-- An item that may be put to the desk. -/
def Dsk.May (d : Dsk) (r : Itm × Int) : Prop := r.2 = 0 → chkI r.1 = 0 ∧ (r.1.s = d.me ∨ r.1.b = d.me)
theorem sold_may {d : Dsk} (h : d.Ok) (s n : Int) : d.May (soldA d s n) := by
  intro h0
  unfold soldA at h0 ⊢
  split at h0
  · cases h0
  · rename_i q hq
    split at h0
    · rename_i hs
      rw [if_pos hs]
      exact h.its q (findX_mem hq).1
    · cases h0
theorem betw_may {d : Dsk} (h : d.Ok) (s n r se bu : Int) : d.May (betwA d s n r se bu) := by
  intro h0
  unfold betwA at h0 ⊢
  split at h0
  · cases h0
  · rename_i q hq
    split at h0
    · cases h0
    · rename_i h1
      split at h0
      · cases h0
      · rename_i h2
        rw [if_neg h1, if_neg h2]
        exact h.its q (findX_mem hq).1
theorem then_may {d : Dsk} {p : Itm × Int} {f : Itm → Itm × Int} (h : d.May p) (hf : ∀ x, chkI x = 0 → chkI (f x).1 = 0 ∧ (f x).1.s = x.s ∧ (f x).1.b = x.b) : d.May (thenA p f) := by
  intro h0
  unfold thenA at h0 ⊢
  by_cases hp : p.2 = 0
  · rw [if_pos hp]
    obtain ⟨h1, h2⟩ := h hp
    obtain ⟨h3, h4, h5⟩ := hf p.1 h1
    rw [h4, h5]
    exact ⟨h3, h2⟩
  · rw [if_neg hp] at h0
    exact absurd h0 hp
theorem issue_may {d : Dsk} (m : Msg) : d.May (issueI d m) := by
  intro h0
  unfold issueI at h0 ⊢
  split at h0
  · cases h0
  · rename_i h1
    split at h0
    · cases h0
    · rename_i h2
      rw [if_neg h1, if_neg h2]
      unfold newA at h0 ⊢
      split at h0
      · rename_i h3
        rw [if_pos h3]
        refine ⟨h3, .inl ?_⟩
        exact Classical.not_not.1 h1
      · rename_i h3
        exact absurd h0 h3
theorem due_may {d : Dsk} (h : d.Ok) (m : Msg) : d.May (dueI d m) := by
  intro h0
  unfold dueI at h0 ⊢
  split at h0
  · cases h0
  · rename_i h1
    rw [if_neg h1]
    exact then_may (sold_may h _ _) (fun _ hx => turn_chk (.inr (.inr ⟨rfl, rfl⟩)) hx) h0
theorem dispI_may {d : Dsk} (h : d.Ok) (m : Msg) (fro : Int) : d.May (dispI d m fro) := then_may (betw_may h _ _ _ _ _) (fun _ hx => turn_chk (.inl ⟨rfl, rfl⟩) hx)
theorem disp_may {d : Dsk} {r : Itm × Int} (h : d.May r) : d.May (dispR r) := by
  intro h0
  unfold dispR at h0 ⊢
  split at h0
  · rename_i h1
    rw [if_pos h1]
    exact h h0
  · rename_i h1
    rw [if_neg h1]
    obtain ⟨h2, h3⟩ := h (by omega)
    obtain ⟨h4, h5, h6⟩ := turn_chk (.inr (.inr ⟨rfl, rfl⟩)) h2
    rw [h5, h6]
    exact ⟨h4, h3⟩
theorem pro_may {d : Dsk} (m : Msg) (fro : Int) : d.May (proI d m fro) := by
  intro h0
  unfold proI at h0 ⊢
  split at h0
  · rename_i h1; exact absurd h0 h1
  · rename_i h1
    split at h0
    · cases h0
    · rename_i h2
      split at h0
      · cases h0
      · rename_i h3
        have hc : chkI (itemM m) = 0 := Classical.not_not.1 h1
        have hb : (itemM m).b = d.me := by show m.b = d.me; omega
        rw [if_neg h1, if_neg h2, if_neg h3]
        split
        · obtain ⟨h4, h5, h6⟩ := turn_chk (.inr (.inl ⟨rfl, rfl⟩)) hc
          exact ⟨h4, .inr (by rw [h6]; exact hb)⟩
        · obtain ⟨h4, h5, h6⟩ := turn_chk (.inl ⟨rfl, rfl⟩) hc
          exact ⟨h4, .inr (by rw [h6]; exact hb)⟩
theorem insX_mem {X : List Itm} {x y : Itm} (h : y ∈ insX X x) : y = x ∨ y ∈ X := by
  unfold insX at h
  simp only [List.mem_append, List.mem_filter, List.mem_singleton] at h
  rcases h with (h | h) | h
  · exact .inr h.1
  · exact .inl h
  · exact .inr h.1
theorem insO_mem {X : List Ord} {x y : Ord} (h : y ∈ insO X x) : y = x ∨ y ∈ X := by
  unfold insO at h
  simp only [List.mem_append, List.mem_filter, List.mem_singleton] at h
  rcases h with (h | h) | h
  · exact .inr h.1
  · exact .inl h
  · exact .inr h.1
theorem beh_ok {d : Dsk} {r : Itm × Int} {ks : List Int} (h : d.Ok) (hm : d.May r) : (d.beh r ks).1.Ok ∧ (d.beh r ks).1.me = d.me ∧ (d.beh r ks).1.far = d.far := by
  unfold Dsk.beh
  split
  · rename_i h0
    refine ⟨⟨h.me, h.far, ?_, h.os⟩, rfl, rfl⟩
    intro x hx
    rcases insX_mem hx with rfl | hx
    · exact hm h0
    · exact h.its x hx
  · exact ⟨h, rfl, rfl⟩
theorem exp_ok {d : Dsk} (h : d.Ok) (m : Msg) : (d.exp m).Ok := by
  refine ⟨h.me, h.far, h.its, ?_⟩
  intro o ho
  unfold Dsk.exp expO at ho
  dsimp only at ho
  split at ho
  · rename_i h1
    rcases insO_mem ho with rfl | ho
    · show Fits m.a
      unfold Fits
      omega
    · exact h.os o ho
  · exact h.os o ho
theorem do_ok {d : Dsk} (h : d.Ok) (m : Msg) (fro : Int) : (doM d m fro).1.Ok ∧ (doM d m fro).1.me = d.me ∧ (doM d m fro).1.far = d.far := by
  have t24 : ∀ x, chkI x = 0 → chkI (turnI x 2 4).1 = 0 ∧ (turnI x 2 4).1.s = x.s ∧ (turnI x 2 4).1.b = x.b := fun _ hx => turn_chk (.inr (.inr ⟨rfl, rfl⟩)) hx
  have t13 : ∀ x, chkI x = 0 → chkI (turnI x 1 3).1 = 0 ∧ (turnI x 1 3).1.s = x.s ∧ (turnI x 1 3).1.b = x.b := fun _ hx => turn_chk (.inr (.inl ⟨rfl, rfl⟩)) hx
  unfold doM clientM nodeM
  repeat' split
  all_goals first
    | exact beh_ok h (issue_may m)
    | exact ⟨exp_ok h m, rfl, rfl⟩
    | exact beh_ok h (then_may (sold_may h _ _) (fun _ hx => adj_chk hx))
    | exact beh_ok h (then_may (sold_may h _ _) t24)
    | exact beh_ok h (due_may h m)
    | exact beh_ok h (pro_may m fro)
    | exact beh_ok h (then_may (betw_may h _ _ _ _ _) t13)
    | exact beh_ok h (disp_may (dispI_may h m fro))
    | exact beh_ok h (then_may (betw_may h _ _ _ _ _) t24)
    | exact ⟨h, rfl, rfl⟩
theorem insO_len {X : List Ord} {x : Ord} (hs : SortO X) : (insO X x).length ≤ X.length + 1 := by
  obtain ⟨A, mid, B, hA⟩ := aroundF_of_sorted posO (posO x) X hs
  exact (insO_around hA).2
theorem beh_len {d : Dsk} {r : Itm × Int} {ks : List Int} (hs : SortX d.xs) : (d.beh r ks).1.xs.length ≤ d.xs.length + 1 ∧ (d.beh r ks).1.os.length ≤ d.os.length + 1 := by
  unfold Dsk.beh
  split
  · exact ⟨insX_len hs, by show d.os.length ≤ _; omega⟩
  · exact ⟨by show d.xs.length ≤ _; omega, by show d.os.length ≤ _; omega⟩
theorem do_len {d : Dsk} (hs : SortX d.xs) (ho : SortO d.os) (m : Msg) (fro : Int) : (doM d m fro).1.xs.length ≤ d.xs.length + 1 ∧ (doM d m fro).1.os.length ≤ d.os.length + 1 := by
  unfold doM clientM nodeM
  repeat' split
  all_goals first
    | exact beh_len hs
    | exact ⟨by show d.xs.length ≤ _; omega, by show d.os.length ≤ _; omega⟩
    | skip
  refine ⟨by show d.xs.length ≤ _; omega, ?_⟩
  unfold Dsk.exp expO
  dsimp only
  split
  · exact insO_len ho
  · show d.os.length ≤ _
    omega
end Go.Proofs.Ytbpfbebebppleaa
namespace Go.Proofs.Ytbpfbebebppleaa
open Go.RowKit
set_option linter.unusedSimpArgs false
set_option linter.unusedSimpArgs false in
set_option maxHeartbeats 4000000 in
set_option maxRecDepth 100000 in
theorem ddispute_any (w : World) (d : Dsk) (pi po : Option Addr) (ci co : Nat) (m : Msg) (vl vn : Value) (fro : Int) (h : DRow w d pi ci po co) (hn : d.xs.length < 1024) (P : Nat → Prop) (hw0 : ∀ b, P b → b < w.heap.size) (hat : At P (.slice pi d.xs.length ci) d.xs.length) (hok : d.May (dispR (dispI d m fro))) :
    Calls Try.prog 28 #[(deskV d.me pi d.xs.length ci po d.os.length co d.far), m.v vl vn, .int .i64 fro] w fun y w' => ActPost w P d pi po ci co (dispR (dispI d m fro)) (dispK (dispI d m fro)) y w' := by
  have HT := Lib.hid (three_new w #[.int .i64 d.me, .slice pi d.xs.length ci, .slice po d.os.length co, .int .i64 d.far] #[.int .i64 m.k, .int .i64 m.s, .int .i64 m.n, .int .i64 m.b, .int .i64 m.c, .int .i64 m.r, .int .i64 m.y, .int .i64 m.a, .bool m.t, vl, vn] #[.int .i64 0, .slice none 0 0, .slice none 0 0, .int .i64 0] 29 40 29)
  have HH := Lib.hid h
  have HNN := Lib.hid hn
  have HW0 := Lib.hid hw0
  have HA0 := Lib.hid hat
  have HOKQ := Lib.hid hok
  clear hn hw0 hat hok
  have HG := Lib.hid (between_any (((w.alloc (.cells #[.int .i64 d.me, .slice pi d.xs.length ci, .slice po d.os.length co, .int .i64 d.far] 29)).alloc (.cells #[.int .i64 m.k, .int .i64 m.s, .int .i64 m.n, .int .i64 m.b, .int .i64 m.c, .int .i64 m.r, .int .i64 m.y, .int .i64 m.a, .bool m.t, vl, vn] 40)).alloc (.cells #[.int .i64 0, .slice none 0 0, .slice none 0 0, .int .i64 0] 29)) d pi po ci co m vl vn d.me fro (h.kept HT.out.low))
  clear h
  obtain ⟨r0, hr0⟩ : ∃ r, dispI d m fro = r := ⟨_, rfl⟩
  rw [hr0] at HOKQ ⊢
  have HRQ := Lib.hid hr0
  clear hr0
  unfold dispI at HRQ
  obtain ⟨r, hr⟩ : ∃ r, dispR r0 = r := ⟨_, rfl⟩
  obtain ⟨ks, hks⟩ : ∃ ks, dispK r0 = ks := ⟨_, rfl⟩
  rw [hr] at HOKQ ⊢
  rw [hks]
  have HRR := Lib.hid hr
  have HKK := Lib.hid hks
  clear hr hks
  generalize betwA d m.s m.n m.r d.me fro = p0 at *
  obtain ⟨q, e⟩ := p0
  unfold ansI Itm.v deskV Msg.v at HG
  unfold deskV Msg.v
  go_enter Try.func28, Try.ntmps28
  go_upto_region 1 with fail
  generalize (((w.alloc (.cells #[.int .i64 d.me, .slice pi d.xs.length ci, .slice po d.os.length co, .int .i64 d.far] 29)).alloc (.cells #[.int .i64 m.k, .int .i64 m.s, .int .i64 m.n, .int .i64 m.b, .int .i64 m.c, .int .i64 m.r, .int .i64 m.y, .int .i64 m.a, .bool m.t, vl, vn] 40)).alloc (.cells #[.int .i64 0, .slice none 0 0, .slice none 0 0, .int .i64 0] 29)) = W at *
  have a0 : W.cell? ⟨w.heap.size, 0, none⟩ = some (.int .i64 d.me) := HT.out.b0.cell 0
  have a1 : W.cell? ⟨w.heap.size, 1, none⟩ = some (.slice pi d.xs.length ci) := HT.out.b0.cell 1
  have a2 : W.cell? ⟨w.heap.size, 2, none⟩ = some (.slice po d.os.length co) := HT.out.b0.cell 2
  have a3 : W.cell? ⟨w.heap.size, 3, none⟩ = some (.int .i64 d.far) := HT.out.b0.cell 3
  have c0 : W.cell? ⟨w.heap.size + 1, 0, none⟩ = some (.int .i64 m.k) := HT.out.b1.cell 0
  have c1 : W.cell? ⟨w.heap.size + 1, 1, none⟩ = some (.int .i64 m.s) := HT.out.b1.cell 1
  have c2 : W.cell? ⟨w.heap.size + 1, 2, none⟩ = some (.int .i64 m.n) := HT.out.b1.cell 2
  have c3 : W.cell? ⟨w.heap.size + 1, 3, none⟩ = some (.int .i64 m.b) := HT.out.b1.cell 3
  have c4 : W.cell? ⟨w.heap.size + 1, 4, none⟩ = some (.int .i64 m.c) := HT.out.b1.cell 4
  have c5 : W.cell? ⟨w.heap.size + 1, 5, none⟩ = some (.int .i64 m.r) := HT.out.b1.cell 5
  have c6 : W.cell? ⟨w.heap.size + 1, 6, none⟩ = some (.int .i64 m.y) := HT.out.b1.cell 6
  have c7 : W.cell? ⟨w.heap.size + 1, 7, none⟩ = some (.int .i64 m.a) := HT.out.b1.cell 7
  have c8 : W.cell? ⟨w.heap.size + 1, 8, none⟩ = some (.bool m.t) := HT.out.b1.cell 8
  have c9 : W.cell? ⟨w.heap.size + 1, 9, none⟩ = some (vl) := HT.out.b1.cell 9
  have c10 : W.cell? ⟨w.heap.size + 1, 10, none⟩ = some (vn) := HT.out.b1.cell 10
  go_wp2_with fail
  clear a0 a1 a2 a3 c0 c1 c2 c3 c4 c5 c6 c7 c8 c9 c10
  refine HG.out.mono ?_
  rintro y w1 ⟨rfl, hb⟩
  have HB7 := Lib.hid ((HT.out.low.trans (hb.mono HT.out.low.size)).alloc (HT.out.low.trans (hb.mono HT.out.low.size)).size (.cells #[.int .i64 q.s, .int .i64 q.n, .int .i64 q.b, .int .i64 q.c, .int .i64 q.a, .int .i64 q.r, .int .i64 q.t, .int .i64 q.y] 64))
  have HD7 : Hid (Blk (w1.alloc (.cells #[.int .i64 q.s, .int .i64 q.n, .int .i64 q.b, .int .i64 q.c, .int .i64 q.a, .int .i64 q.r, .int .i64 q.t, .int .i64 q.y] 64)) w.heap.size #[.int .i64 d.me, .slice pi d.xs.length ci, .slice po d.os.length co, .int .i64 d.far] 29) := (HT.out.b0.below hb HT.out.b0.lt).alloc _
  have HM7 : Hid (Blk (w1.alloc (.cells #[.int .i64 q.s, .int .i64 q.n, .int .i64 q.b, .int .i64 q.c, .int .i64 q.a, .int .i64 q.r, .int .i64 q.t, .int .i64 q.y] 64)) (w.heap.size + 1) #[.int .i64 m.k, .int .i64 m.s, .int .i64 m.n, .int .i64 m.b, .int .i64 m.c, .int .i64 m.r, .int .i64 m.y, .int .i64 m.a, .bool m.t, vl, vn] 40) := (HT.out.b1.below hb HT.out.b1.lt).alloc _
  have HR7 : Hid (Blk (w1.alloc (.cells #[.int .i64 q.s, .int .i64 q.n, .int .i64 q.b, .int .i64 q.c, .int .i64 q.a, .int .i64 q.r, .int .i64 q.t, .int .i64 q.y] 64)) (w.heap.size + 1 + 1) #[.int .i64 0, .slice none 0 0, .slice none 0 0, .int .i64 0] 29) := (HT.out.b2.below hb HT.out.b2.lt).alloc _
  have HQ6 := Lib.hid (Blk.new w1 #[.int .i64 q.s, .int .i64 q.n, .int .i64 q.b, .int .i64 q.c, .int .i64 q.a, .int .i64 q.r, .int .i64 q.t, .int .i64 q.y] 64)
  have HGX7 : Hid (w.heap.size + 1 + 1 < w1.heap.size) := by show _ < _; have h1 := HT.out.b2.lt; have h2 := hb.size; omega
  clear hb HG HT
  go_upto_region 2 with fail
  generalize w1.alloc (.cells #[.int .i64 q.s, .int .i64 q.n, .int .i64 q.b, .int .i64 q.c, .int .i64 q.a, .int .i64 q.r, .int .i64 q.t, .int .i64 q.y] 64) = w6 at *
  generalize w1.heap.size = gx at *
  have HB6 := HB7
  have HD6 := HD7
  have HM6 := HM7
  have HR6 := HR7
  have HGX := HGX7
  clear HB7 HD7 HM7 HR7 HGX7
  by_cases he0 : e = 0
  · subst he0
    have h0 : (turnI q 1 2) = r0 := by rw [← HRQ.out]; unfold thenA; rw [if_pos rfl]
    have HR0 := Lib.hid h0
    clear h0 HRQ
    have HG := Lib.hid (dispute_any q w6)
    generalize hp1 : turnI q 1 2 = p1 at *
    clear hp1
    obtain ⟨q1, e1⟩ := p1
    unfold ansI Itm.v at HG
    have x0 : w6.cell? ⟨gx, 0, none⟩ = some (.int .i64 q.s) := HQ6.out.cell 0
    have x1 : w6.cell? ⟨gx, 1, none⟩ = some (.int .i64 q.n) := HQ6.out.cell 1
    have x2 : w6.cell? ⟨gx, 2, none⟩ = some (.int .i64 q.b) := HQ6.out.cell 2
    have x3 : w6.cell? ⟨gx, 3, none⟩ = some (.int .i64 q.c) := HQ6.out.cell 3
    have x4 : w6.cell? ⟨gx, 4, none⟩ = some (.int .i64 q.a) := HQ6.out.cell 4
    have x5 : w6.cell? ⟨gx, 5, none⟩ = some (.int .i64 q.r) := HQ6.out.cell 5
    have x6 : w6.cell? ⟨gx, 6, none⟩ = some (.int .i64 q.t) := HQ6.out.cell 6
    have x7 : w6.cell? ⟨gx, 7, none⟩ = some (.int .i64 q.y) := HQ6.out.cell 7
    go_wp2_with fail
    clear x0 x1 x2 x3 x4 x5 x6 x7
    refine HG.out.mono ?_
    rintro y w2 ⟨rfl, hb2⟩
    have HD2 := Lib.hid (HD6.out.below hb2 HD6.out.lt)
    have HR2 := Lib.hid (HR6.out.below hb2 HR6.out.lt)
    have HQ2 := Lib.hid (HQ6.out.below hb2 HQ6.out.lt)
    have HB2 := Lib.hid (HB6.out.trans (hb2.mono HB6.out.size))
    have HM2 := Lib.hid (HM6.out.below hb2 HM6.out.lt)
    clear hb2 HG HD6 HR6 HQ6 HB6 HM6
    go_wp2_with (with_reducible refine stop_storeT 64 (.tmp 9) (.tmp 26) rfl ?_)
    have HTH : Hid (w2.there gx 0 8) := HQ2.out.thereAt
    have HFF : Hid (Blk (w2.setCells gx 0 (#[.int .i64 q1.s, .int .i64 q1.n, .int .i64 q1.b, .int .i64 q1.c, .int .i64 q1.a, .int .i64 q1.r, .int .i64 q1.t, .int .i64 q1.y] : Array Value).toList) gx #[.int .i64 q1.s, .int .i64 q1.n, .int .i64 q1.b, .int .i64 q1.c, .int .i64 q1.a, .int .i64 q1.r, .int .i64 q1.t, .int .i64 q1.y] 64 ∧ Chg gx w2 (w2.setCells gx 0 (#[.int .i64 q1.s, .int .i64 q1.n, .int .i64 q1.b, .int .i64 q1.c, .int .i64 q1.a, .int .i64 q1.r, .int .i64 q1.t, .int .i64 q1.y] : Array Value).toList)) := ⟨blk_put_all HQ2.out _ rfl, chg_putL _ _ _ _ _ (Chg.refl _ w2)⟩
    refine wpList_store_mid rfl 64 (.tmp 9) (.tmp 26) rfl gx 0 #[.int .i64 q1.s, .int .i64 q1.n, .int .i64 q1.b, .int .i64 q1.c, .int .i64 q1.a, .int .i64 q1.r, .int .i64 q1.t, .int .i64 q1.y] rfl rfl HTH.out (infoI8 rfl) (all_oneCell_toArray (encI.one q1)) ?_
    generalize World.setCells w2 gx _ _ = w6 at *
    clear HTH
    have HD6 := Lib.hid (HD2.out.chg HFF.out.2 (by have := HGX.out; omega))
    have HM6 := Lib.hid (HM2.out.chg HFF.out.2 (by have := HGX.out; omega))
    have HR6 := Lib.hid (HR2.out.chg HFF.out.2 (by have := HGX.out; omega))
    have HQ6 := Lib.hid HFF.out.1
    have HB6 := Lib.hid (HB2.out.trans (HFF.out.2.below (by have := HGX.out; omega) HB2.out.size))
    clear HD2 HR2 HQ2 HB2 HM2 HFF
    go_upto_region 4 with fail
    by_cases he1 : e1 = 0
    · subst he1
      by_cases hr3 : q1.r < 3
      · have HRP : Hid ((q1, (0 : Int)) = r) := by
          show _ = _
          rw [← HRR.out, ← HR0.out]
          unfold dispR
          rw [if_pos (.inr hr3)]
        have HKP : Hid (([] : List Int) = ks) := by
          show _ = _
          rw [← HKK.out, ← HR0.out]
          unfold dispK
          rw [if_pos (.inr hr3)]
        clear HRR HKK HR0
        have hkp := HKP.out
        subst hkp
        have HOK : Hid (chkI q1 = 0 ∧ (q1.s = d.me ∨ q1.b = d.me)) := by
          have h := HOKQ.out
          rw [← HRP.out] at h
          exact h rfl
        have x5 : w6.cell? ⟨gx, 5, none⟩ = some (.int .i64 q1.r) := HQ6.out.cell 5
        go_upto_region 5 with fail
        clear x5 hr3
        have a0 : w6.cell? ⟨w.heap.size, 0, none⟩ = some (.int .i64 d.me) := HD6.out.cell 0
        have a1 : w6.cell? ⟨w.heap.size, 1, none⟩ = some (.slice pi d.xs.length ci) := HD6.out.cell 1
        have a2 : w6.cell? ⟨w.heap.size, 2, none⟩ = some (.slice po d.os.length co) := HD6.out.cell 2
        have a3 : w6.cell? ⟨w.heap.size, 3, none⟩ = some (.int .i64 d.far) := HD6.out.cell 3
        have x0 : w6.cell? ⟨gx, 0, none⟩ = some (.int .i64 q1.s) := HQ6.out.cell 0
        have x1 : w6.cell? ⟨gx, 1, none⟩ = some (.int .i64 q1.n) := HQ6.out.cell 1
        have x2 : w6.cell? ⟨gx, 2, none⟩ = some (.int .i64 q1.b) := HQ6.out.cell 2
        have x3 : w6.cell? ⟨gx, 3, none⟩ = some (.int .i64 q1.c) := HQ6.out.cell 3
        have x4 : w6.cell? ⟨gx, 4, none⟩ = some (.int .i64 q1.a) := HQ6.out.cell 4
        have x5 : w6.cell? ⟨gx, 5, none⟩ = some (.int .i64 q1.r) := HQ6.out.cell 5
        have x6 : w6.cell? ⟨gx, 6, none⟩ = some (.int .i64 q1.t) := HQ6.out.cell 6
        have x7 : w6.cell? ⟨gx, 7, none⟩ = some (.int .i64 q1.y) := HQ6.out.cell 7
        have HBH := Lib.hid (behind_0 w6 d pi po ci co q1 (HH.out.kept HB6.out) HOK.out.1 HOK.out.2 HNN.out P (fun b hb => Nat.lt_of_lt_of_le (HW0.out b hb) HB6.out.size) HA0.out)
        unfold deskV Itm.v at HBH
        go_wp2_with fail
        clear a0 a1 a2 a3 x0 x1 x2 x3 x4 x5 x6 x7
        refine HBH.out.mono ?_
        rintro y w7 ⟨pi2, ci2, rfl, hdr, hat7, hb7⟩
        have hb67 : Below w6.heap.size w6 w7 := hb7
        have HR7 := Lib.hid (HR6.out.below hb67 HR6.out.lt)
        have HB7 := Lib.hid (HB6.out.trans (hb67.mono HB6.out.size))
        have HZ7 : Hid (w.heap.size + 1 + 1 < w6.heap.size ∧ w.heap.size ≤ w6.heap.size) := ⟨HR6.out.lt, HB6.out.size⟩
        go_wp2_with (with_reducible refine stop_storeT 29 (.tmp 6) (.tmp 39) rfl ?_)
        have HTH : Hid (w7.there (w.heap.size + 1 + 1) 0 4) := HR7.out.thereAt
        have HF : Hid (Blk (w7.setCells (w.heap.size + 1 + 1) 0 (#[.int .i64 d.me, .slice pi2 (insX d.xs q1).length ci2, .slice po d.os.length co, .int .i64 d.far] : Array Value).toList) (w.heap.size + 1 + 1) #[.int .i64 d.me, .slice pi2 (insX d.xs q1).length ci2, .slice po d.os.length co, .int .i64 d.far] 29 ∧ Below w.heap.size w (w7.setCells (w.heap.size + 1 + 1) 0 (#[.int .i64 d.me, .slice pi2 (insX d.xs q1).length ci2, .slice po d.os.length co, .int .i64 d.far] : Array Value).toList) ∧ Chg (w.heap.size + 1 + 1) w7 (w7.setCells (w.heap.size + 1 + 1) 0 (#[.int .i64 d.me, .slice pi2 (insX d.xs q1).length ci2, .slice po d.os.length co, .int .i64 d.far] : Array Value).toList)) := ⟨blk_put_all HR7.out _ rfl, below_put (by omega) _ _ _ _ HB7.out, chg_putL _ _ _ _ _ (Chg.refl _ w7)⟩
        refine wpList_store_mid rfl 29 (.tmp 6) (.tmp 39) rfl (w.heap.size + 1 + 1) 0 #[.int .i64 d.me, .slice pi2 (insX d.xs q1).length ci2, .slice po d.os.length co, .int .i64 d.far] rfl rfl HTH.out (infoD4 rfl) (all_oneCell_toArray (by intro u hu; simp at hu; rcases hu with rfl | rfl | rfl | rfl <;> rfl)) ?_
        generalize World.setCells w7 _ _ _ = w8 at *
        clear HTH
        go_wp2_with fail
        have hf := HF.out.1
        have hrr := HRP.out
        subst hrr
        refine bodyPost_ret (v := .tuple #[.agg #[.int .i64 d.me, .slice pi2 (insX d.xs q1).length ci2, .slice po d.os.length co, .int .i64 d.far], .slice none 0 0, .int .i64 0]) (by simp [results, Try.results28, go_sem, hf.cell 0, hf.cell 1, hf.cell 2, hf.cell 3]) rfl ⟨HF.out.2.1, .inr ⟨rfl, pi2, ci2, _, rfl, ?_, ?_, ?_, ?_⟩⟩
        · exact ⟨hdr.items.keepP hat7 (KeepP.of_chg HF.out.2.2 (fun hb => by have h2 := HZ7.out; have h3 := HW0.out; rcases hb with hb | hb; (have h4 := h3 _ hb; omega); ((try simp at hb); omega))), HH.out.orders.kept HF.out.2.1, hdr.sx, hdr.so, hdr.nx, hdr.no⟩
        · exact hat7.imp (fun b hb => hb.imp id (fun h => by have h2 := HZ7.out; (try simp at h); omega))
        · intro _; first | rfl | (rename_i h; cases h)
        · exact ⟨OwnT.nil_ _ _ _ _, Apt.nil _ _⟩
      · have HRP0 : Hid (turnI q1 2 4 = r) := by
          show _ = _
          rw [← HRR.out, ← HR0.out]
          unfold dispR
          rw [if_neg (by rintro (h | h); exact h rfl; exact hr3 h)]
        have HKP : Hid (([9] : List Int) = ks) := by
          show _ = _
          rw [← HKK.out, ← HR0.out]
          unfold dispK
          rw [if_neg (by rintro (h | h); exact h rfl; exact hr3 h)]
        clear HRR HKK HR0
        have hkp := HKP.out
        subst hkp
        have x5 : w6.cell? ⟨gx, 5, none⟩ = some (.int .i64 q1.r) := HQ6.out.cell 5
        go_upto_region 6 with fail
        clear x5 hr3
        have HG := Lib.hid (cancel_any q1 w6)
        generalize hp2 : turnI q1 2 4 = p2 at *
        clear hp2
        obtain ⟨q2, e2⟩ := p2
        unfold ansI Itm.v at HG
        have x0 : w6.cell? ⟨gx, 0, none⟩ = some (.int .i64 q1.s) := HQ6.out.cell 0
        have x1 : w6.cell? ⟨gx, 1, none⟩ = some (.int .i64 q1.n) := HQ6.out.cell 1
        have x2 : w6.cell? ⟨gx, 2, none⟩ = some (.int .i64 q1.b) := HQ6.out.cell 2
        have x3 : w6.cell? ⟨gx, 3, none⟩ = some (.int .i64 q1.c) := HQ6.out.cell 3
        have x4 : w6.cell? ⟨gx, 4, none⟩ = some (.int .i64 q1.a) := HQ6.out.cell 4
        have x5 : w6.cell? ⟨gx, 5, none⟩ = some (.int .i64 q1.r) := HQ6.out.cell 5
        have x6 : w6.cell? ⟨gx, 6, none⟩ = some (.int .i64 q1.t) := HQ6.out.cell 6
        have x7 : w6.cell? ⟨gx, 7, none⟩ = some (.int .i64 q1.y) := HQ6.out.cell 7
        go_wp2_with fail
        clear x0 x1 x2 x3 x4 x5 x6 x7
        refine HG.out.mono ?_
        rintro y w2 ⟨rfl, hb2⟩
        have HD2 := Lib.hid (HD6.out.below hb2 HD6.out.lt)
        have HR2 := Lib.hid (HR6.out.below hb2 HR6.out.lt)
        have HQ2 := Lib.hid (HQ6.out.below hb2 HQ6.out.lt)
        have HB2 := Lib.hid (HB6.out.trans (hb2.mono HB6.out.size))
        have HM2 := Lib.hid (HM6.out.below hb2 HM6.out.lt)
        clear hb2 HG HD6 HR6 HQ6 HB6 HM6
        go_wp2_with (with_reducible refine stop_storeT 64 (.tmp 9) (.tmp 45) rfl ?_)
        have HTH : Hid (w2.there gx 0 8) := HQ2.out.thereAt
        have HFF : Hid (Blk (w2.setCells gx 0 (#[.int .i64 q2.s, .int .i64 q2.n, .int .i64 q2.b, .int .i64 q2.c, .int .i64 q2.a, .int .i64 q2.r, .int .i64 q2.t, .int .i64 q2.y] : Array Value).toList) gx #[.int .i64 q2.s, .int .i64 q2.n, .int .i64 q2.b, .int .i64 q2.c, .int .i64 q2.a, .int .i64 q2.r, .int .i64 q2.t, .int .i64 q2.y] 64 ∧ Chg gx w2 (w2.setCells gx 0 (#[.int .i64 q2.s, .int .i64 q2.n, .int .i64 q2.b, .int .i64 q2.c, .int .i64 q2.a, .int .i64 q2.r, .int .i64 q2.t, .int .i64 q2.y] : Array Value).toList)) := ⟨blk_put_all HQ2.out _ rfl, chg_putL _ _ _ _ _ (Chg.refl _ w2)⟩
        refine wpList_store_mid rfl 64 (.tmp 9) (.tmp 45) rfl gx 0 #[.int .i64 q2.s, .int .i64 q2.n, .int .i64 q2.b, .int .i64 q2.c, .int .i64 q2.a, .int .i64 q2.r, .int .i64 q2.t, .int .i64 q2.y] rfl rfl HTH.out (infoI8 rfl) (all_oneCell_toArray (encI.one q2)) ?_
        generalize World.setCells w2 gx _ _ = w6 at *
        clear HTH
        have HD6 := Lib.hid (HD2.out.chg HFF.out.2 (by have := HGX.out; omega))
        have HM6 := Lib.hid (HM2.out.chg HFF.out.2 (by have := HGX.out; omega))
        have HR6 := Lib.hid (HR2.out.chg HFF.out.2 (by have := HGX.out; omega))
        have HQ6 := Lib.hid HFF.out.1
        have HB6 := Lib.hid (HB2.out.trans (HFF.out.2.below (by have := HGX.out; omega) HB2.out.size))
        clear HD2 HR2 HQ2 HB2 HM2 HFF
        go_upto_region 7 with fail
        have HRP : Hid ((q2, e2) = r) := HRP0
        clear HRP0
        by_cases he2 : e2 = 0
        · subst he2
          have HOK : Hid (chkI q2 = 0 ∧ (q2.s = d.me ∨ q2.b = d.me)) := by
            have h := HOKQ.out
            rw [← HRP.out] at h
            exact h rfl
          have a0 : w6.cell? ⟨w.heap.size, 0, none⟩ = some (.int .i64 d.me) := HD6.out.cell 0
          have a1 : w6.cell? ⟨w.heap.size, 1, none⟩ = some (.slice pi d.xs.length ci) := HD6.out.cell 1
          have a2 : w6.cell? ⟨w.heap.size, 2, none⟩ = some (.slice po d.os.length co) := HD6.out.cell 2
          have a3 : w6.cell? ⟨w.heap.size, 3, none⟩ = some (.int .i64 d.far) := HD6.out.cell 3
          have x0 : w6.cell? ⟨gx, 0, none⟩ = some (.int .i64 q2.s) := HQ6.out.cell 0
          have x1 : w6.cell? ⟨gx, 1, none⟩ = some (.int .i64 q2.n) := HQ6.out.cell 1
          have x2 : w6.cell? ⟨gx, 2, none⟩ = some (.int .i64 q2.b) := HQ6.out.cell 2
          have x3 : w6.cell? ⟨gx, 3, none⟩ = some (.int .i64 q2.c) := HQ6.out.cell 3
          have x4 : w6.cell? ⟨gx, 4, none⟩ = some (.int .i64 q2.a) := HQ6.out.cell 4
          have x5 : w6.cell? ⟨gx, 5, none⟩ = some (.int .i64 q2.r) := HQ6.out.cell 5
          have x6 : w6.cell? ⟨gx, 6, none⟩ = some (.int .i64 q2.t) := HQ6.out.cell 6
          have x7 : w6.cell? ⟨gx, 7, none⟩ = some (.int .i64 q2.y) := HQ6.out.cell 7
          have HBH := Lib.hid (behind_1 (w6.alloc (.cells #[.int .i64 9] 3)) d pi po ci co q2 9 w6.heap.size 0 1 ((Blk.new w6 #[.int .i64 9] 3).cell 0) ((HH.out.kept HB6.out).kept (oneB w6 _)) HOK.out.1 HOK.out.2 HNN.out P (fun b hb => Nat.lt_of_lt_of_le (HW0.out b hb) (Nat.le_trans HB6.out.size (oneB w6 _).size)) HA0.out)
          unfold deskV Itm.v at HBH
          go_wp2_with fail
          clear a0 a1 a2 a3 x0 x1 x2 x3 x4 x5 x6 x7
          refine HBH.out.mono ?_
          rintro y w7 ⟨pi2, ci2, vs, rfl, hdr, hat7, hown, hb7⟩
          have hb67 : Below w6.heap.size w6 w7 := (oneB w6 _).trans (hb7.mono (by simp))
          have HR7 := Lib.hid (HR6.out.below hb67 HR6.out.lt)
          have HB7 := Lib.hid (HB6.out.trans (hb67.mono HB6.out.size))
          have HZ7 : Hid (w.heap.size + 1 + 1 < w6.heap.size ∧ w.heap.size ≤ w6.heap.size) := ⟨HR6.out.lt, HB6.out.size⟩
          go_wp2_with (with_reducible refine stop_storeT 29 (.tmp 6) (.tmp 52) rfl ?_)
          have HTH : Hid (w7.there (w.heap.size + 1 + 1) 0 4) := HR7.out.thereAt
          have HF : Hid (Blk (w7.setCells (w.heap.size + 1 + 1) 0 (#[.int .i64 d.me, .slice pi2 (insX d.xs q2).length ci2, .slice po d.os.length co, .int .i64 d.far] : Array Value).toList) (w.heap.size + 1 + 1) #[.int .i64 d.me, .slice pi2 (insX d.xs q2).length ci2, .slice po d.os.length co, .int .i64 d.far] 29 ∧ Below w.heap.size w (w7.setCells (w.heap.size + 1 + 1) 0 (#[.int .i64 d.me, .slice pi2 (insX d.xs q2).length ci2, .slice po d.os.length co, .int .i64 d.far] : Array Value).toList) ∧ Chg (w.heap.size + 1 + 1) w7 (w7.setCells (w.heap.size + 1 + 1) 0 (#[.int .i64 d.me, .slice pi2 (insX d.xs q2).length ci2, .slice po d.os.length co, .int .i64 d.far] : Array Value).toList)) := ⟨blk_put_all HR7.out _ rfl, below_put (by omega) _ _ _ _ HB7.out, chg_putL _ _ _ _ _ (Chg.refl _ w7)⟩
          refine wpList_store_mid rfl 29 (.tmp 6) (.tmp 52) rfl (w.heap.size + 1 + 1) 0 #[.int .i64 d.me, .slice pi2 (insX d.xs q2).length ci2, .slice po d.os.length co, .int .i64 d.far] rfl rfl HTH.out (infoD4 rfl) (all_oneCell_toArray (by intro u hu; simp at hu; rcases hu with rfl | rfl | rfl | rfl <;> rfl)) ?_
          generalize World.setCells w7 _ _ _ = w8 at *
          clear HTH
          go_wp2_with fail
          have hf := HF.out.1
          have hrr := HRP.out
          subst hrr
          refine bodyPost_ret (v := .tuple #[.agg #[.int .i64 d.me, .slice pi2 (insX d.xs q2).length ci2, .slice po d.os.length co, .int .i64 d.far], vs, .int .i64 0]) (by simp [results, Try.results28, go_sem, hf.cell 0, hf.cell 1, hf.cell 2, hf.cell 3]) rfl ⟨HF.out.2.1, .inr ⟨rfl, pi2, ci2, vs, rfl, ?_, ?_, ?_, ?_⟩⟩
          · exact ⟨hdr.items.keepP hat7 (KeepP.of_chg HF.out.2.2 (fun hb => by have h2 := HZ7.out; have h3 := HW0.out; rcases hb with hb | hb; (have h4 := h3 _ hb; omega); ((try simp at hb); omega))), HH.out.orders.kept HF.out.2.1, hdr.sx, hdr.so, hdr.nx, hdr.no⟩
          · exact hat7.imp (fun b hb => hb.imp id (fun h => by have h2 := HZ7.out; (try simp at h); omega))
          · intro h; cases h
          · exact ⟨(hown.1.stay (fun b hb => HF.out.2.2.2 b (hown.1.lt b hb) (by have h1 := hown.1.block_ge b hb; have h2 := HZ7.out; simp at h1; omega))).less (by have h2 := HZ7.out; simp; omega), hown.2⟩
        · have he := Lib.hid he2
          have heb : (e2 == 0) = false := by simpa using he2
          have hebn : (e2 != 0) = true := by simpa using he2
          clear he2
          clear heb hebn
          have a0 : w6.cell? ⟨w.heap.size, 0, none⟩ = some (.int .i64 d.me) := HD6.out.cell 0
          have a1 : w6.cell? ⟨w.heap.size, 1, none⟩ = some (.slice pi d.xs.length ci) := HD6.out.cell 1
          have a2 : w6.cell? ⟨w.heap.size, 2, none⟩ = some (.slice po d.os.length co) := HD6.out.cell 2
          have a3 : w6.cell? ⟨w.heap.size, 3, none⟩ = some (.int .i64 d.far) := HD6.out.cell 3
          have x0 : w6.cell? ⟨gx, 0, none⟩ = some (.int .i64 q2.s) := HQ6.out.cell 0
          have x1 : w6.cell? ⟨gx, 1, none⟩ = some (.int .i64 q2.n) := HQ6.out.cell 1
          have x2 : w6.cell? ⟨gx, 2, none⟩ = some (.int .i64 q2.b) := HQ6.out.cell 2
          have x3 : w6.cell? ⟨gx, 3, none⟩ = some (.int .i64 q2.c) := HQ6.out.cell 3
          have x4 : w6.cell? ⟨gx, 4, none⟩ = some (.int .i64 q2.a) := HQ6.out.cell 4
          have x5 : w6.cell? ⟨gx, 5, none⟩ = some (.int .i64 q2.r) := HQ6.out.cell 5
          have x6 : w6.cell? ⟨gx, 6, none⟩ = some (.int .i64 q2.t) := HQ6.out.cell 6
          have x7 : w6.cell? ⟨gx, 7, none⟩ = some (.int .i64 q2.y) := HQ6.out.cell 7
          have HBH := Lib.hid (behind_err (w6.alloc (.cells #[.int .i64 9] 3)) d pi po ci co q2 e2 (.slice (some ⟨w6.heap.size, 0, none⟩) 1 1) (by first | exact he.out | exact he1.out))
          unfold deskV Itm.v at HBH
          go_wp2_with fail
          clear a0 a1 a2 a3 x0 x1 x2 x3 x4 x5 x6 x7
          refine HBH.out.mono ?_
          rintro y w7 ⟨rfl, hb7⟩
          have hb67 : Below w6.heap.size w6 w7 := (oneB w6 _).trans (hb7.mono (by simp))
          have HR7 := Lib.hid (HR6.out.below hb67 HR6.out.lt)
          have HB7 := Lib.hid (HB6.out.trans (hb67.mono HB6.out.size))
          have HZ7 : Hid (w.heap.size + 1 + 1 < w6.heap.size ∧ w.heap.size ≤ w6.heap.size) := ⟨HR6.out.lt, HB6.out.size⟩
          go_wp2_with (with_reducible refine stop_storeT 29 (.tmp 6) (.tmp 52) rfl ?_)
          have HTH : Hid (w7.there (w.heap.size + 1 + 1) 0 4) := HR7.out.thereAt
          have HF : Hid (Blk (w7.setCells (w.heap.size + 1 + 1) 0 (#[.int .i64 d.me, .slice pi d.xs.length ci, .slice po d.os.length co, .int .i64 d.far] : Array Value).toList) (w.heap.size + 1 + 1) #[.int .i64 d.me, .slice pi d.xs.length ci, .slice po d.os.length co, .int .i64 d.far] 29 ∧ Below w.heap.size w (w7.setCells (w.heap.size + 1 + 1) 0 (#[.int .i64 d.me, .slice pi d.xs.length ci, .slice po d.os.length co, .int .i64 d.far] : Array Value).toList) ∧ Chg (w.heap.size + 1 + 1) w7 (w7.setCells (w.heap.size + 1 + 1) 0 (#[.int .i64 d.me, .slice pi d.xs.length ci, .slice po d.os.length co, .int .i64 d.far] : Array Value).toList)) := ⟨blk_put_all HR7.out _ rfl, below_put (by omega) _ _ _ _ HB7.out, chg_putL _ _ _ _ _ (Chg.refl _ w7)⟩
          refine wpList_store_mid rfl 29 (.tmp 6) (.tmp 52) rfl (w.heap.size + 1 + 1) 0 #[.int .i64 d.me, .slice pi d.xs.length ci, .slice po d.os.length co, .int .i64 d.far] rfl rfl HTH.out (infoD4 rfl) (all_oneCell_toArray (by intro u hu; simp at hu; rcases hu with rfl | rfl | rfl | rfl <;> rfl)) ?_
          generalize World.setCells w7 _ _ _ = w8 at *
          clear HTH
          go_wp2_with fail
          have hf := HF.out.1
          have hrr := HRP.out
          subst hrr
          refine bodyPost_ret (v := .tuple #[.agg #[.int .i64 d.me, .slice pi d.xs.length ci, .slice po d.os.length co, .int .i64 d.far], .slice none 0 0, .int .i64 e2]) (by simp [results, Try.results28, go_sem, hf.cell 0, hf.cell 1, hf.cell 2, hf.cell 3]) rfl ⟨HF.out.2.1, .inl ⟨by first | exact he.out | exact he1.out, rfl⟩⟩
    · have he := Lib.hid he1
      have heb : (e1 == 0) = false := by simpa using he1
      have hebn : (e1 != 0) = true := by simpa using he1
      clear he1
      have HRP : Hid ((q1, e1) = r) := by
        show _ = _
        rw [← HRR.out, ← HR0.out]
        unfold dispR
        rw [if_pos (.inl he.out)]
      have HKP : Hid (([] : List Int) = ks) := by
        show _ = _
        rw [← HKK.out, ← HR0.out]
        unfold dispK
        rw [if_pos (.inl he.out)]
      clear HRR HKK HR0
      have hkp := HKP.out
      subst hkp
      go_upto_region 5 with fail
      clear heb hebn
      have a0 : w6.cell? ⟨w.heap.size, 0, none⟩ = some (.int .i64 d.me) := HD6.out.cell 0
      have a1 : w6.cell? ⟨w.heap.size, 1, none⟩ = some (.slice pi d.xs.length ci) := HD6.out.cell 1
      have a2 : w6.cell? ⟨w.heap.size, 2, none⟩ = some (.slice po d.os.length co) := HD6.out.cell 2
      have a3 : w6.cell? ⟨w.heap.size, 3, none⟩ = some (.int .i64 d.far) := HD6.out.cell 3
      have x0 : w6.cell? ⟨gx, 0, none⟩ = some (.int .i64 q1.s) := HQ6.out.cell 0
      have x1 : w6.cell? ⟨gx, 1, none⟩ = some (.int .i64 q1.n) := HQ6.out.cell 1
      have x2 : w6.cell? ⟨gx, 2, none⟩ = some (.int .i64 q1.b) := HQ6.out.cell 2
      have x3 : w6.cell? ⟨gx, 3, none⟩ = some (.int .i64 q1.c) := HQ6.out.cell 3
      have x4 : w6.cell? ⟨gx, 4, none⟩ = some (.int .i64 q1.a) := HQ6.out.cell 4
      have x5 : w6.cell? ⟨gx, 5, none⟩ = some (.int .i64 q1.r) := HQ6.out.cell 5
      have x6 : w6.cell? ⟨gx, 6, none⟩ = some (.int .i64 q1.t) := HQ6.out.cell 6
      have x7 : w6.cell? ⟨gx, 7, none⟩ = some (.int .i64 q1.y) := HQ6.out.cell 7
      have HBH := Lib.hid (behind_err w6 d pi po ci co q1 e1 (.slice none 0 0) (by first | exact he.out | exact he1.out))
      unfold deskV Itm.v at HBH
      go_wp2_with fail
      clear a0 a1 a2 a3 x0 x1 x2 x3 x4 x5 x6 x7
      refine HBH.out.mono ?_
      rintro y w7 ⟨rfl, hb7⟩
      have hb67 : Below w6.heap.size w6 w7 := hb7
      have HR7 := Lib.hid (HR6.out.below hb67 HR6.out.lt)
      have HB7 := Lib.hid (HB6.out.trans (hb67.mono HB6.out.size))
      have HZ7 : Hid (w.heap.size + 1 + 1 < w6.heap.size ∧ w.heap.size ≤ w6.heap.size) := ⟨HR6.out.lt, HB6.out.size⟩
      go_wp2_with (with_reducible refine stop_storeT 29 (.tmp 6) (.tmp 39) rfl ?_)
      have HTH : Hid (w7.there (w.heap.size + 1 + 1) 0 4) := HR7.out.thereAt
      have HF : Hid (Blk (w7.setCells (w.heap.size + 1 + 1) 0 (#[.int .i64 d.me, .slice pi d.xs.length ci, .slice po d.os.length co, .int .i64 d.far] : Array Value).toList) (w.heap.size + 1 + 1) #[.int .i64 d.me, .slice pi d.xs.length ci, .slice po d.os.length co, .int .i64 d.far] 29 ∧ Below w.heap.size w (w7.setCells (w.heap.size + 1 + 1) 0 (#[.int .i64 d.me, .slice pi d.xs.length ci, .slice po d.os.length co, .int .i64 d.far] : Array Value).toList) ∧ Chg (w.heap.size + 1 + 1) w7 (w7.setCells (w.heap.size + 1 + 1) 0 (#[.int .i64 d.me, .slice pi d.xs.length ci, .slice po d.os.length co, .int .i64 d.far] : Array Value).toList)) := ⟨blk_put_all HR7.out _ rfl, below_put (by omega) _ _ _ _ HB7.out, chg_putL _ _ _ _ _ (Chg.refl _ w7)⟩
      refine wpList_store_mid rfl 29 (.tmp 6) (.tmp 39) rfl (w.heap.size + 1 + 1) 0 #[.int .i64 d.me, .slice pi d.xs.length ci, .slice po d.os.length co, .int .i64 d.far] rfl rfl HTH.out (infoD4 rfl) (all_oneCell_toArray (by intro u hu; simp at hu; rcases hu with rfl | rfl | rfl | rfl <;> rfl)) ?_
      generalize World.setCells w7 _ _ _ = w8 at *
      clear HTH
      go_wp2_with fail
      have hf := HF.out.1
      have hrr := HRP.out
      subst hrr
      refine bodyPost_ret (v := .tuple #[.agg #[.int .i64 d.me, .slice pi d.xs.length ci, .slice po d.os.length co, .int .i64 d.far], .slice none 0 0, .int .i64 e1]) (by simp [results, Try.results28, go_sem, hf.cell 0, hf.cell 1, hf.cell 2, hf.cell 3]) rfl ⟨HF.out.2.1, .inl ⟨by first | exact he.out | exact he1.out, rfl⟩⟩
  · have he := Lib.hid he0
    have heb : (e == 0) = false := by simpa using he0
    have hebn : (e != 0) = true := by simpa using he0
    clear he0
    have h0 : (q, e) = r0 := by rw [← HRQ.out]; unfold thenA; rw [if_neg he.out]
    have HR0 := Lib.hid h0
    clear h0 HRQ
    have HRP : Hid ((q, e) = r) := by
      show _ = _
      rw [← HRR.out, ← HR0.out]
      unfold dispR
      rw [if_pos (.inl he.out)]
    have HKP : Hid (([] : List Int) = ks) := by
      show _ = _
      rw [← HKK.out, ← HR0.out]
      unfold dispK
      rw [if_pos (.inl he.out)]
    clear HRR HKK HR0
    have hkp := HKP.out
    subst hkp
    go_upto_region 5 with fail
    clear heb hebn
    have a0 : w6.cell? ⟨w.heap.size, 0, none⟩ = some (.int .i64 d.me) := HD6.out.cell 0
    have a1 : w6.cell? ⟨w.heap.size, 1, none⟩ = some (.slice pi d.xs.length ci) := HD6.out.cell 1
    have a2 : w6.cell? ⟨w.heap.size, 2, none⟩ = some (.slice po d.os.length co) := HD6.out.cell 2
    have a3 : w6.cell? ⟨w.heap.size, 3, none⟩ = some (.int .i64 d.far) := HD6.out.cell 3
    have x0 : w6.cell? ⟨gx, 0, none⟩ = some (.int .i64 q.s) := HQ6.out.cell 0
    have x1 : w6.cell? ⟨gx, 1, none⟩ = some (.int .i64 q.n) := HQ6.out.cell 1
    have x2 : w6.cell? ⟨gx, 2, none⟩ = some (.int .i64 q.b) := HQ6.out.cell 2
    have x3 : w6.cell? ⟨gx, 3, none⟩ = some (.int .i64 q.c) := HQ6.out.cell 3
    have x4 : w6.cell? ⟨gx, 4, none⟩ = some (.int .i64 q.a) := HQ6.out.cell 4
    have x5 : w6.cell? ⟨gx, 5, none⟩ = some (.int .i64 q.r) := HQ6.out.cell 5
    have x6 : w6.cell? ⟨gx, 6, none⟩ = some (.int .i64 q.t) := HQ6.out.cell 6
    have x7 : w6.cell? ⟨gx, 7, none⟩ = some (.int .i64 q.y) := HQ6.out.cell 7
    have HBH := Lib.hid (behind_err w6 d pi po ci co q e (.slice none 0 0) (by first | exact he.out | exact he1.out))
    unfold deskV Itm.v at HBH
    go_wp2_with fail
    clear a0 a1 a2 a3 x0 x1 x2 x3 x4 x5 x6 x7
    refine HBH.out.mono ?_
    rintro y w7 ⟨rfl, hb7⟩
    have hb67 : Below w6.heap.size w6 w7 := hb7
    have HR7 := Lib.hid (HR6.out.below hb67 HR6.out.lt)
    have HB7 := Lib.hid (HB6.out.trans (hb67.mono HB6.out.size))
    have HZ7 : Hid (w.heap.size + 1 + 1 < w6.heap.size ∧ w.heap.size ≤ w6.heap.size) := ⟨HR6.out.lt, HB6.out.size⟩
    go_wp2_with (with_reducible refine stop_storeT 29 (.tmp 6) (.tmp 39) rfl ?_)
    have HTH : Hid (w7.there (w.heap.size + 1 + 1) 0 4) := HR7.out.thereAt
    have HF : Hid (Blk (w7.setCells (w.heap.size + 1 + 1) 0 (#[.int .i64 d.me, .slice pi d.xs.length ci, .slice po d.os.length co, .int .i64 d.far] : Array Value).toList) (w.heap.size + 1 + 1) #[.int .i64 d.me, .slice pi d.xs.length ci, .slice po d.os.length co, .int .i64 d.far] 29 ∧ Below w.heap.size w (w7.setCells (w.heap.size + 1 + 1) 0 (#[.int .i64 d.me, .slice pi d.xs.length ci, .slice po d.os.length co, .int .i64 d.far] : Array Value).toList) ∧ Chg (w.heap.size + 1 + 1) w7 (w7.setCells (w.heap.size + 1 + 1) 0 (#[.int .i64 d.me, .slice pi d.xs.length ci, .slice po d.os.length co, .int .i64 d.far] : Array Value).toList)) := ⟨blk_put_all HR7.out _ rfl, below_put (by omega) _ _ _ _ HB7.out, chg_putL _ _ _ _ _ (Chg.refl _ w7)⟩
    refine wpList_store_mid rfl 29 (.tmp 6) (.tmp 39) rfl (w.heap.size + 1 + 1) 0 #[.int .i64 d.me, .slice pi d.xs.length ci, .slice po d.os.length co, .int .i64 d.far] rfl rfl HTH.out (infoD4 rfl) (all_oneCell_toArray (by intro u hu; simp at hu; rcases hu with rfl | rfl | rfl | rfl <;> rfl)) ?_
    generalize World.setCells w7 _ _ _ = w8 at *
    clear HTH
    go_wp2_with fail
    have hf := HF.out.1
    have hrr := HRP.out
    subst hrr
    refine bodyPost_ret (v := .tuple #[.agg #[.int .i64 d.me, .slice pi d.xs.length ci, .slice po d.os.length co, .int .i64 d.far], .slice none 0 0, .int .i64 e]) (by simp [results, Try.results28, go_sem, hf.cell 0, hf.cell 1, hf.cell 2, hf.cell 3]) rfl ⟨HF.out.2.1, .inl ⟨by first | exact he.out | exact he1.out, rfl⟩⟩
set_option linter.unusedSimpArgs false in
set_option maxHeartbeats 4000000 in
set_option maxRecDepth 100000 in
theorem dissue_any (w : World) (d : Dsk) (pi po : Option Addr) (ci co : Nat) (m : Msg) (vl vn : Value) (fro : Int) (h : DRow w d pi ci po co) (hn : d.xs.length < 1024) (P : Nat → Prop) (hw0 : ∀ b, P b → b < w.heap.size) (hat : At P (.slice pi d.xs.length ci) d.xs.length) (hok : d.May (issueI d m)) :
    Calls Try.prog 30 #[(deskV d.me pi d.xs.length ci po d.os.length co d.far), m.v vl vn, .int .i64 fro] w fun y w' => ActPost w P d pi po ci co (issueI d m) [6] y w' := by
  have HT := Lib.hid (three_new w #[.int .i64 d.me, .slice pi d.xs.length ci, .slice po d.os.length co, .int .i64 d.far] #[.int .i64 m.k, .int .i64 m.s, .int .i64 m.n, .int .i64 m.b, .int .i64 m.c, .int .i64 m.r, .int .i64 m.y, .int .i64 m.a, .bool m.t, vl, vn] #[.int .i64 0, .slice none 0 0, .slice none 0 0, .int .i64 0] 29 40 29)
  have HH := Lib.hid h
  have HNN := Lib.hid hn
  have HW0 := Lib.hid hw0
  have HA0 := Lib.hid hat
  have HOKQ := Lib.hid hok
  clear hn hw0 hat hok
  unfold issueI at HOKQ ⊢
  have HG := Lib.hid (dget_any (((w.alloc (.cells #[.int .i64 d.me, .slice pi d.xs.length ci, .slice po d.os.length co, .int .i64 d.far] 29)).alloc (.cells #[.int .i64 m.k, .int .i64 m.s, .int .i64 m.n, .int .i64 m.b, .int .i64 m.c, .int .i64 m.r, .int .i64 m.y, .int .i64 m.a, .bool m.t, vl, vn] 40)).alloc (.cells #[.int .i64 0, .slice none 0 0, .slice none 0 0, .int .i64 0] 29)) d.me pi po d.xs.length ci d.os.length co m.s m.n d.xs (h.items.kept HT.out.low) rfl h.sx (by have := h.nx; omega))
  clear h
  unfold bookV idV at HG
  by_cases h1 : m.s = d.me
  · have h1' : (m.s != d.me) = false := by simpa using h1
    rw [if_neg (fun hq => hq h1)] at HOKQ ⊢
    clear h1
    generalize hf : findX d.xs m.s m.n = fo at HG HOKQ ⊢
    clear hf
    cases fo with
    | some q =>
      simp only [Option.getD_some, Option.isSome_some, if_true] at HG HOKQ ⊢
      unfold Itm.v at HG
      have HRP : Hid ((itm0, (5 : Int)) = (itm0, (5 : Int))) := Lib.hid rfl
      unfold deskV Msg.v
      go_enter Try.func30, Try.ntmps30
      go_upto_region 1 with fail
      generalize (((w.alloc (.cells #[.int .i64 d.me, .slice pi d.xs.length ci, .slice po d.os.length co, .int .i64 d.far] 29)).alloc (.cells #[.int .i64 m.k, .int .i64 m.s, .int .i64 m.n, .int .i64 m.b, .int .i64 m.c, .int .i64 m.r, .int .i64 m.y, .int .i64 m.a, .bool m.t, vl, vn] 40)).alloc (.cells #[.int .i64 0, .slice none 0 0, .slice none 0 0, .int .i64 0] 29)) = W at *
      have a0 : W.cell? ⟨w.heap.size, 0, none⟩ = some (.int .i64 d.me) := HT.out.b0.cell 0
      have a1 : W.cell? ⟨w.heap.size, 1, none⟩ = some (.slice pi d.xs.length ci) := HT.out.b0.cell 1
      have a2 : W.cell? ⟨w.heap.size, 2, none⟩ = some (.slice po d.os.length co) := HT.out.b0.cell 2
      have a3 : W.cell? ⟨w.heap.size, 3, none⟩ = some (.int .i64 d.far) := HT.out.b0.cell 3
      have c1 : W.cell? ⟨w.heap.size + 1, 1, none⟩ = some (.int .i64 m.s) := HT.out.b1.cell 1
      have c2 : W.cell? ⟨w.heap.size + 1, 2, none⟩ = some (.int .i64 m.n) := HT.out.b1.cell 2
      go_wp2_with fail
      clear a0 a1 a2 a3 c1 c2
      clear h1'
      refine HG.out.mono ?_
      rintro y w1 ⟨rfl, hb⟩
      have HB7 := Lib.hid ((HT.out.low.trans (hb.mono HT.out.low.size)).alloc (HT.out.low.trans (hb.mono HT.out.low.size)).size (.cells #[.int .i64 q.s, .int .i64 q.n, .int .i64 q.b, .int .i64 q.c, .int .i64 q.a, .int .i64 q.r, .int .i64 q.t, .int .i64 q.y] 64))
      have HD7 : Hid (Blk (w1.alloc (.cells #[.int .i64 q.s, .int .i64 q.n, .int .i64 q.b, .int .i64 q.c, .int .i64 q.a, .int .i64 q.r, .int .i64 q.t, .int .i64 q.y] 64)) w.heap.size #[.int .i64 d.me, .slice pi d.xs.length ci, .slice po d.os.length co, .int .i64 d.far] 29) := (HT.out.b0.below hb HT.out.b0.lt).alloc _
      have HM7 : Hid (Blk (w1.alloc (.cells #[.int .i64 q.s, .int .i64 q.n, .int .i64 q.b, .int .i64 q.c, .int .i64 q.a, .int .i64 q.r, .int .i64 q.t, .int .i64 q.y] 64)) (w.heap.size + 1) #[.int .i64 m.k, .int .i64 m.s, .int .i64 m.n, .int .i64 m.b, .int .i64 m.c, .int .i64 m.r, .int .i64 m.y, .int .i64 m.a, .bool m.t, vl, vn] 40) := (HT.out.b1.below hb HT.out.b1.lt).alloc _
      have HR7 : Hid (Blk (w1.alloc (.cells #[.int .i64 q.s, .int .i64 q.n, .int .i64 q.b, .int .i64 q.c, .int .i64 q.a, .int .i64 q.r, .int .i64 q.t, .int .i64 q.y] 64)) (w.heap.size + 1 + 1) #[.int .i64 0, .slice none 0 0, .slice none 0 0, .int .i64 0] 29) := (HT.out.b2.below hb HT.out.b2.lt).alloc _
      have HQ6 := Lib.hid (Blk.new w1 #[.int .i64 q.s, .int .i64 q.n, .int .i64 q.b, .int .i64 q.c, .int .i64 q.a, .int .i64 q.r, .int .i64 q.t, .int .i64 q.y] 64)
      have HGX7 : Hid (w.heap.size + 1 + 1 < w1.heap.size) := by show _ < _; have h1 := HT.out.b2.lt; have h2 := hb.size; omega
      clear hb HG HT
      go_upto_region 4 with fail
      generalize w1.alloc (.cells #[.int .i64 q.s, .int .i64 q.n, .int .i64 q.b, .int .i64 q.c, .int .i64 q.a, .int .i64 q.r, .int .i64 q.t, .int .i64 q.y] 64) = w6 at *
      generalize w1.heap.size = gx at *
      have HB6 := HB7
      have HD6 := HD7
      have HM6 := HM7
      have HR6 := HR7
      have HGX := HGX7
      clear HB7 HD7 HM7 HR7 HGX7
      go_upto_region 5 with fail
      have a0 : w6.cell? ⟨w.heap.size, 0, none⟩ = some (.int .i64 d.me) := HD6.out.cell 0
      have a1 : w6.cell? ⟨w.heap.size, 1, none⟩ = some (.slice pi d.xs.length ci) := HD6.out.cell 1
      have a2 : w6.cell? ⟨w.heap.size, 2, none⟩ = some (.slice po d.os.length co) := HD6.out.cell 2
      have a3 : w6.cell? ⟨w.heap.size, 3, none⟩ = some (.int .i64 d.far) := HD6.out.cell 3
      have HR8 := Lib.hid HR6.out
      have HB8 := Lib.hid HB6.out
      go_wp2_with (with_reducible refine stop_storeT 29 (.tmp 6) (.tmp 30) rfl ?_)
      clear a0 a1 a2 a3
      have HTH : Hid (w6.there (w.heap.size + 1 + 1) 0 4) := HR8.out.thereAt
      have HF : Hid (Blk (w6.setCells (w.heap.size + 1 + 1) 0 (#[.int .i64 d.me, .slice pi d.xs.length ci, .slice po d.os.length co, .int .i64 d.far] : Array Value).toList) (w.heap.size + 1 + 1) #[.int .i64 d.me, .slice pi d.xs.length ci, .slice po d.os.length co, .int .i64 d.far] 29 ∧ Below w.heap.size w (w6.setCells (w.heap.size + 1 + 1) 0 (#[.int .i64 d.me, .slice pi d.xs.length ci, .slice po d.os.length co, .int .i64 d.far] : Array Value).toList)) := ⟨blk_put_all HR8.out _ rfl, below_put (by omega) _ _ _ _ HB8.out⟩
      refine wpList_store_mid rfl 29 (.tmp 6) (.tmp 30) rfl (w.heap.size + 1 + 1) 0 #[.int .i64 d.me, .slice pi d.xs.length ci, .slice po d.os.length co, .int .i64 d.far] rfl rfl HTH.out (infoD4 rfl) (all_oneCell_toArray (by intro u hu; simp at hu; rcases hu with rfl | rfl | rfl | rfl <;> rfl)) ?_
      generalize World.setCells w6 _ _ _ = w8 at *
      clear HTH
      go_wp2_with fail
      have hf := HF.out.1
      refine bodyPost_ret (v := .tuple #[.agg #[.int .i64 d.me, .slice pi d.xs.length ci, .slice po d.os.length co, .int .i64 d.far], .slice none 0 0, .int .i64 5]) (by simp [results, Try.results30, go_sem, hf.cell 0, hf.cell 1, hf.cell 2, hf.cell 3]) rfl ⟨HF.out.2, .inl ⟨by decide, rfl⟩⟩
    | none =>
      simp only [Option.getD_none, Option.isSome_none, Bool.false_eq_true, if_false] at HG HOKQ ⊢
      unfold Itm.v at HG
      simp only [itm0] at HG
      obtain ⟨r, hr⟩ : ∃ r, newA (newI m.s m.n m.b m.c m.a) = r := ⟨_, rfl⟩
      rw [hr] at HOKQ ⊢
      have HRQ := Lib.hid hr
      clear hr
      unfold deskV Msg.v
      go_enter Try.func30, Try.ntmps30
      go_upto_region 1 with fail
      generalize (((w.alloc (.cells #[.int .i64 d.me, .slice pi d.xs.length ci, .slice po d.os.length co, .int .i64 d.far] 29)).alloc (.cells #[.int .i64 m.k, .int .i64 m.s, .int .i64 m.n, .int .i64 m.b, .int .i64 m.c, .int .i64 m.r, .int .i64 m.y, .int .i64 m.a, .bool m.t, vl, vn] 40)).alloc (.cells #[.int .i64 0, .slice none 0 0, .slice none 0 0, .int .i64 0] 29)) = W at *
      have a0 : W.cell? ⟨w.heap.size, 0, none⟩ = some (.int .i64 d.me) := HT.out.b0.cell 0
      have a1 : W.cell? ⟨w.heap.size, 1, none⟩ = some (.slice pi d.xs.length ci) := HT.out.b0.cell 1
      have a2 : W.cell? ⟨w.heap.size, 2, none⟩ = some (.slice po d.os.length co) := HT.out.b0.cell 2
      have a3 : W.cell? ⟨w.heap.size, 3, none⟩ = some (.int .i64 d.far) := HT.out.b0.cell 3
      have c1 : W.cell? ⟨w.heap.size + 1, 1, none⟩ = some (.int .i64 m.s) := HT.out.b1.cell 1
      have c2 : W.cell? ⟨w.heap.size + 1, 2, none⟩ = some (.int .i64 m.n) := HT.out.b1.cell 2
      go_wp2_with fail
      clear a0 a1 a2 a3 c1 c2
      clear h1'
      refine HG.out.mono ?_
      rintro y w1 ⟨rfl, hb⟩
      have HB7 := Lib.hid ((HT.out.low.trans (hb.mono HT.out.low.size)).alloc (HT.out.low.trans (hb.mono HT.out.low.size)).size (.cells #[.int .i64 0, .int .i64 0, .int .i64 0, .int .i64 0, .int .i64 0, .int .i64 0, .int .i64 0, .int .i64 0] 64))
      have HD7 : Hid (Blk (w1.alloc (.cells #[.int .i64 0, .int .i64 0, .int .i64 0, .int .i64 0, .int .i64 0, .int .i64 0, .int .i64 0, .int .i64 0] 64)) w.heap.size #[.int .i64 d.me, .slice pi d.xs.length ci, .slice po d.os.length co, .int .i64 d.far] 29) := (HT.out.b0.below hb HT.out.b0.lt).alloc _
      have HM7 : Hid (Blk (w1.alloc (.cells #[.int .i64 0, .int .i64 0, .int .i64 0, .int .i64 0, .int .i64 0, .int .i64 0, .int .i64 0, .int .i64 0] 64)) (w.heap.size + 1) #[.int .i64 m.k, .int .i64 m.s, .int .i64 m.n, .int .i64 m.b, .int .i64 m.c, .int .i64 m.r, .int .i64 m.y, .int .i64 m.a, .bool m.t, vl, vn] 40) := (HT.out.b1.below hb HT.out.b1.lt).alloc _
      have HR7 : Hid (Blk (w1.alloc (.cells #[.int .i64 0, .int .i64 0, .int .i64 0, .int .i64 0, .int .i64 0, .int .i64 0, .int .i64 0, .int .i64 0] 64)) (w.heap.size + 1 + 1) #[.int .i64 0, .slice none 0 0, .slice none 0 0, .int .i64 0] 29) := (HT.out.b2.below hb HT.out.b2.lt).alloc _
      have HQ6 := Lib.hid (Blk.new w1 #[.int .i64 0, .int .i64 0, .int .i64 0, .int .i64 0, .int .i64 0, .int .i64 0, .int .i64 0, .int .i64 0] 64)
      have HGX7 : Hid (w.heap.size + 1 + 1 < w1.heap.size) := by show _ < _; have h1 := HT.out.b2.lt; have h2 := hb.size; omega
      clear hb HG HT
      go_upto_region 4 with fail
      generalize w1.alloc (.cells #[.int .i64 0, .int .i64 0, .int .i64 0, .int .i64 0, .int .i64 0, .int .i64 0, .int .i64 0, .int .i64 0] 64) = w6 at *
      generalize w1.heap.size = gx at *
      have HB6 := HB7
      have HD6 := HD7
      have HM6 := HM7
      have HR6 := HR7
      have HGX := HGX7
      clear HB7 HD7 HM7 HR7 HGX7
      have HG := Lib.hid (new_any m.s m.n m.b m.c m.a w6)
      rw [HRQ.out] at HG
      clear HRQ
      obtain ⟨q1, e1⟩ := r
      unfold ansI Itm.v at HG
      go_upto_region 6 with fail
      clear HQ6
      have c1 : w6.cell? ⟨w.heap.size + 1, 1, none⟩ = some (.int .i64 m.s) := HM6.out.cell 1
      have c2 : w6.cell? ⟨w.heap.size + 1, 2, none⟩ = some (.int .i64 m.n) := HM6.out.cell 2
      have c3 : w6.cell? ⟨w.heap.size + 1, 3, none⟩ = some (.int .i64 m.b) := HM6.out.cell 3
      have c4 : w6.cell? ⟨w.heap.size + 1, 4, none⟩ = some (.int .i64 m.c) := HM6.out.cell 4
      have c7 : w6.cell? ⟨w.heap.size + 1, 7, none⟩ = some (.int .i64 m.a) := HM6.out.cell 7
      go_wp2_with fail
      clear c1 c2 c3 c4 c7
      refine HG.out.mono ?_
      rintro y w1 ⟨rfl, hb⟩
      have HB7 := Lib.hid ((HB6.out.trans (hb.mono HB6.out.size)).alloc (HB6.out.trans (hb.mono HB6.out.size)).size (.cells #[.int .i64 q1.s, .int .i64 q1.n, .int .i64 q1.b, .int .i64 q1.c, .int .i64 q1.a, .int .i64 q1.r, .int .i64 q1.t, .int .i64 q1.y] 64))
      have HD7 : Hid (Blk (w1.alloc (.cells #[.int .i64 q1.s, .int .i64 q1.n, .int .i64 q1.b, .int .i64 q1.c, .int .i64 q1.a, .int .i64 q1.r, .int .i64 q1.t, .int .i64 q1.y] 64)) w.heap.size #[.int .i64 d.me, .slice pi d.xs.length ci, .slice po d.os.length co, .int .i64 d.far] 29) := (HD6.out.below hb HD6.out.lt).alloc _
      have HM7 : Hid (Blk (w1.alloc (.cells #[.int .i64 q1.s, .int .i64 q1.n, .int .i64 q1.b, .int .i64 q1.c, .int .i64 q1.a, .int .i64 q1.r, .int .i64 q1.t, .int .i64 q1.y] 64)) (w.heap.size + 1) #[.int .i64 m.k, .int .i64 m.s, .int .i64 m.n, .int .i64 m.b, .int .i64 m.c, .int .i64 m.r, .int .i64 m.y, .int .i64 m.a, .bool m.t, vl, vn] 40) := (HM6.out.below hb HM6.out.lt).alloc _
      have HR7 : Hid (Blk (w1.alloc (.cells #[.int .i64 q1.s, .int .i64 q1.n, .int .i64 q1.b, .int .i64 q1.c, .int .i64 q1.a, .int .i64 q1.r, .int .i64 q1.t, .int .i64 q1.y] 64)) (w.heap.size + 1 + 1) #[.int .i64 0, .slice none 0 0, .slice none 0 0, .int .i64 0] 29) := (HR6.out.below hb HR6.out.lt).alloc _
      have HQ6 := Lib.hid (Blk.new w1 #[.int .i64 q1.s, .int .i64 q1.n, .int .i64 q1.b, .int .i64 q1.c, .int .i64 q1.a, .int .i64 q1.r, .int .i64 q1.t, .int .i64 q1.y] 64)
      have HGX7 : Hid (w.heap.size + 1 + 1 < w1.heap.size) := by show _ < _; have h1 := HR6.out.lt; have h2 := hb.size; omega
      clear hb HG HB6 HD6 HM6 HR6 HGX
      go_upto_region 7 with fail
      generalize w1.alloc (.cells #[.int .i64 q1.s, .int .i64 q1.n, .int .i64 q1.b, .int .i64 q1.c, .int .i64 q1.a, .int .i64 q1.r, .int .i64 q1.t, .int .i64 q1.y] 64) = w6 at *
      generalize w1.heap.size = gx at *
      have HB6 := HB7
      have HD6 := HD7
      have HM6 := HM7
      have HR6 := HR7
      have HGX := HGX7
      clear HB7 HD7 HM7 HR7 HGX7
      by_cases he1 : e1 = 0
      · subst he1
        have HOK : Hid (chkI q1 = 0 ∧ (q1.s = d.me ∨ q1.b = d.me)) := HOKQ.out rfl
        have a0 : w6.cell? ⟨w.heap.size, 0, none⟩ = some (.int .i64 d.me) := HD6.out.cell 0
        have a1 : w6.cell? ⟨w.heap.size, 1, none⟩ = some (.slice pi d.xs.length ci) := HD6.out.cell 1
        have a2 : w6.cell? ⟨w.heap.size, 2, none⟩ = some (.slice po d.os.length co) := HD6.out.cell 2
        have a3 : w6.cell? ⟨w.heap.size, 3, none⟩ = some (.int .i64 d.far) := HD6.out.cell 3
        have x0 : w6.cell? ⟨gx, 0, none⟩ = some (.int .i64 q1.s) := HQ6.out.cell 0
        have x1 : w6.cell? ⟨gx, 1, none⟩ = some (.int .i64 q1.n) := HQ6.out.cell 1
        have x2 : w6.cell? ⟨gx, 2, none⟩ = some (.int .i64 q1.b) := HQ6.out.cell 2
        have x3 : w6.cell? ⟨gx, 3, none⟩ = some (.int .i64 q1.c) := HQ6.out.cell 3
        have x4 : w6.cell? ⟨gx, 4, none⟩ = some (.int .i64 q1.a) := HQ6.out.cell 4
        have x5 : w6.cell? ⟨gx, 5, none⟩ = some (.int .i64 q1.r) := HQ6.out.cell 5
        have x6 : w6.cell? ⟨gx, 6, none⟩ = some (.int .i64 q1.t) := HQ6.out.cell 6
        have x7 : w6.cell? ⟨gx, 7, none⟩ = some (.int .i64 q1.y) := HQ6.out.cell 7
        have HBH := Lib.hid (behind_1 (w6.alloc (.cells #[.int .i64 6] 3)) d pi po ci co q1 6 w6.heap.size 0 1 ((Blk.new w6 #[.int .i64 6] 3).cell 0) ((HH.out.kept HB6.out).kept (oneB w6 _)) HOK.out.1 HOK.out.2 HNN.out P (fun b hb => Nat.lt_of_lt_of_le (HW0.out b hb) (Nat.le_trans HB6.out.size (oneB w6 _).size)) HA0.out)
        unfold deskV Itm.v at HBH
        go_wp2_with fail
        clear a0 a1 a2 a3 x0 x1 x2 x3 x4 x5 x6 x7
        refine HBH.out.mono ?_
        rintro y w7 ⟨pi2, ci2, vs, rfl, hdr, hat7, hown, hb7⟩
        have hb67 : Below w6.heap.size w6 w7 := (oneB w6 _).trans (hb7.mono (by simp))
        have HR7 := Lib.hid (HR6.out.below hb67 HR6.out.lt)
        have HB7 := Lib.hid (HB6.out.trans (hb67.mono HB6.out.size))
        have HZ7 : Hid (w.heap.size + 1 + 1 < w6.heap.size ∧ w.heap.size ≤ w6.heap.size) := ⟨HR6.out.lt, HB6.out.size⟩
        go_wp2_with (with_reducible refine stop_storeT 29 (.tmp 6) (.tmp 48) rfl ?_)
        have HTH : Hid (w7.there (w.heap.size + 1 + 1) 0 4) := HR7.out.thereAt
        have HF : Hid (Blk (w7.setCells (w.heap.size + 1 + 1) 0 (#[.int .i64 d.me, .slice pi2 (insX d.xs q1).length ci2, .slice po d.os.length co, .int .i64 d.far] : Array Value).toList) (w.heap.size + 1 + 1) #[.int .i64 d.me, .slice pi2 (insX d.xs q1).length ci2, .slice po d.os.length co, .int .i64 d.far] 29 ∧ Below w.heap.size w (w7.setCells (w.heap.size + 1 + 1) 0 (#[.int .i64 d.me, .slice pi2 (insX d.xs q1).length ci2, .slice po d.os.length co, .int .i64 d.far] : Array Value).toList) ∧ Chg (w.heap.size + 1 + 1) w7 (w7.setCells (w.heap.size + 1 + 1) 0 (#[.int .i64 d.me, .slice pi2 (insX d.xs q1).length ci2, .slice po d.os.length co, .int .i64 d.far] : Array Value).toList)) := ⟨blk_put_all HR7.out _ rfl, below_put (by omega) _ _ _ _ HB7.out, chg_putL _ _ _ _ _ (Chg.refl _ w7)⟩
        refine wpList_store_mid rfl 29 (.tmp 6) (.tmp 48) rfl (w.heap.size + 1 + 1) 0 #[.int .i64 d.me, .slice pi2 (insX d.xs q1).length ci2, .slice po d.os.length co, .int .i64 d.far] rfl rfl HTH.out (infoD4 rfl) (all_oneCell_toArray (by intro u hu; simp at hu; rcases hu with rfl | rfl | rfl | rfl <;> rfl)) ?_
        generalize World.setCells w7 _ _ _ = w8 at *
        clear HTH
        go_wp2_with fail
        have hf := HF.out.1
        refine bodyPost_ret (v := .tuple #[.agg #[.int .i64 d.me, .slice pi2 (insX d.xs q1).length ci2, .slice po d.os.length co, .int .i64 d.far], vs, .int .i64 0]) (by simp [results, Try.results30, go_sem, hf.cell 0, hf.cell 1, hf.cell 2, hf.cell 3]) rfl ⟨HF.out.2.1, .inr ⟨rfl, pi2, ci2, vs, rfl, ?_, ?_, ?_, ?_⟩⟩
        · exact ⟨hdr.items.keepP hat7 (KeepP.of_chg HF.out.2.2 (fun hb => by have h2 := HZ7.out; have h3 := HW0.out; rcases hb with hb | hb; (have h4 := h3 _ hb; omega); ((try simp at hb); omega))), HH.out.orders.kept HF.out.2.1, hdr.sx, hdr.so, hdr.nx, hdr.no⟩
        · exact hat7.imp (fun b hb => hb.imp id (fun h => by have h2 := HZ7.out; (try simp at h); omega))
        · intro h; cases h
        · exact ⟨(hown.1.stay (fun b hb => HF.out.2.2.2 b (hown.1.lt b hb) (by have h1 := hown.1.block_ge b hb; have h2 := HZ7.out; simp at h1; omega))).less (by have h2 := HZ7.out; simp; omega), hown.2⟩
      · have he := Lib.hid he1
        have heb : (e1 == 0) = false := by simpa using he1
        have hebn : (e1 != 0) = true := by simpa using he1
        clear he1
        clear heb hebn
        have a0 : w6.cell? ⟨w.heap.size, 0, none⟩ = some (.int .i64 d.me) := HD6.out.cell 0
        have a1 : w6.cell? ⟨w.heap.size, 1, none⟩ = some (.slice pi d.xs.length ci) := HD6.out.cell 1
        have a2 : w6.cell? ⟨w.heap.size, 2, none⟩ = some (.slice po d.os.length co) := HD6.out.cell 2
        have a3 : w6.cell? ⟨w.heap.size, 3, none⟩ = some (.int .i64 d.far) := HD6.out.cell 3
        have x0 : w6.cell? ⟨gx, 0, none⟩ = some (.int .i64 q1.s) := HQ6.out.cell 0
        have x1 : w6.cell? ⟨gx, 1, none⟩ = some (.int .i64 q1.n) := HQ6.out.cell 1
        have x2 : w6.cell? ⟨gx, 2, none⟩ = some (.int .i64 q1.b) := HQ6.out.cell 2
        have x3 : w6.cell? ⟨gx, 3, none⟩ = some (.int .i64 q1.c) := HQ6.out.cell 3
        have x4 : w6.cell? ⟨gx, 4, none⟩ = some (.int .i64 q1.a) := HQ6.out.cell 4
        have x5 : w6.cell? ⟨gx, 5, none⟩ = some (.int .i64 q1.r) := HQ6.out.cell 5
        have x6 : w6.cell? ⟨gx, 6, none⟩ = some (.int .i64 q1.t) := HQ6.out.cell 6
        have x7 : w6.cell? ⟨gx, 7, none⟩ = some (.int .i64 q1.y) := HQ6.out.cell 7
        have HBH := Lib.hid (behind_err (w6.alloc (.cells #[.int .i64 6] 3)) d pi po ci co q1 e1 (.slice (some ⟨w6.heap.size, 0, none⟩) 1 1) (by first | exact he.out | exact he1.out))
        unfold deskV Itm.v at HBH
        go_wp2_with fail
        clear a0 a1 a2 a3 x0 x1 x2 x3 x4 x5 x6 x7
        refine HBH.out.mono ?_
        rintro y w7 ⟨rfl, hb7⟩
        have hb67 : Below w6.heap.size w6 w7 := (oneB w6 _).trans (hb7.mono (by simp))
        have HR7 := Lib.hid (HR6.out.below hb67 HR6.out.lt)
        have HB7 := Lib.hid (HB6.out.trans (hb67.mono HB6.out.size))
        have HZ7 : Hid (w.heap.size + 1 + 1 < w6.heap.size ∧ w.heap.size ≤ w6.heap.size) := ⟨HR6.out.lt, HB6.out.size⟩
        go_wp2_with (with_reducible refine stop_storeT 29 (.tmp 6) (.tmp 48) rfl ?_)
        have HTH : Hid (w7.there (w.heap.size + 1 + 1) 0 4) := HR7.out.thereAt
        have HF : Hid (Blk (w7.setCells (w.heap.size + 1 + 1) 0 (#[.int .i64 d.me, .slice pi d.xs.length ci, .slice po d.os.length co, .int .i64 d.far] : Array Value).toList) (w.heap.size + 1 + 1) #[.int .i64 d.me, .slice pi d.xs.length ci, .slice po d.os.length co, .int .i64 d.far] 29 ∧ Below w.heap.size w (w7.setCells (w.heap.size + 1 + 1) 0 (#[.int .i64 d.me, .slice pi d.xs.length ci, .slice po d.os.length co, .int .i64 d.far] : Array Value).toList) ∧ Chg (w.heap.size + 1 + 1) w7 (w7.setCells (w.heap.size + 1 + 1) 0 (#[.int .i64 d.me, .slice pi d.xs.length ci, .slice po d.os.length co, .int .i64 d.far] : Array Value).toList)) := ⟨blk_put_all HR7.out _ rfl, below_put (by omega) _ _ _ _ HB7.out, chg_putL _ _ _ _ _ (Chg.refl _ w7)⟩
        refine wpList_store_mid rfl 29 (.tmp 6) (.tmp 48) rfl (w.heap.size + 1 + 1) 0 #[.int .i64 d.me, .slice pi d.xs.length ci, .slice po d.os.length co, .int .i64 d.far] rfl rfl HTH.out (infoD4 rfl) (all_oneCell_toArray (by intro u hu; simp at hu; rcases hu with rfl | rfl | rfl | rfl <;> rfl)) ?_
        generalize World.setCells w7 _ _ _ = w8 at *
        clear HTH
        go_wp2_with fail
        have hf := HF.out.1
        refine bodyPost_ret (v := .tuple #[.agg #[.int .i64 d.me, .slice pi d.xs.length ci, .slice po d.os.length co, .int .i64 d.far], .slice none 0 0, .int .i64 e1]) (by simp [results, Try.results30, go_sem, hf.cell 0, hf.cell 1, hf.cell 2, hf.cell 3]) rfl ⟨HF.out.2.1, .inl ⟨by first | exact he.out | exact he1.out, rfl⟩⟩
  · have h1' : (m.s != d.me) = true := by simpa using h1
    rw [if_pos h1]
    have HRP : Hid ((itm0, (140 : Int)) = (itm0, (140 : Int))) := Lib.hid rfl
    clear h1 HG
    unfold deskV Msg.v
    go_enter Try.func30, Try.ntmps30
    go_upto_region 1 with fail
    generalize (((w.alloc (.cells #[.int .i64 d.me, .slice pi d.xs.length ci, .slice po d.os.length co, .int .i64 d.far] 29)).alloc (.cells #[.int .i64 m.k, .int .i64 m.s, .int .i64 m.n, .int .i64 m.b, .int .i64 m.c, .int .i64 m.r, .int .i64 m.y, .int .i64 m.a, .bool m.t, vl, vn] 40)).alloc (.cells #[.int .i64 0, .slice none 0 0, .slice none 0 0, .int .i64 0] 29)) = W at *
    have a0 : W.cell? ⟨w.heap.size, 0, none⟩ = some (.int .i64 d.me) := HT.out.b0.cell 0
    have c1 : W.cell? ⟨w.heap.size + 1, 1, none⟩ = some (.int .i64 m.s) := HT.out.b1.cell 1
    go_upto_region 2 with fail
    clear a0 c1 h1'
    have HD6 := Lib.hid HT.out.b0
    have HR6 := Lib.hid HT.out.b2
    have HB6 := Lib.hid HT.out.low
    clear HT
    have a0 : W.cell? ⟨w.heap.size, 0, none⟩ = some (.int .i64 d.me) := HD6.out.cell 0
    have a1 : W.cell? ⟨w.heap.size, 1, none⟩ = some (.slice pi d.xs.length ci) := HD6.out.cell 1
    have a2 : W.cell? ⟨w.heap.size, 2, none⟩ = some (.slice po d.os.length co) := HD6.out.cell 2
    have a3 : W.cell? ⟨w.heap.size, 3, none⟩ = some (.int .i64 d.far) := HD6.out.cell 3
    have HR8 := Lib.hid HR6.out
    have HB8 := Lib.hid HB6.out
    go_wp2_with (with_reducible refine stop_storeT 29 (.tmp 6) (.tmp 20) rfl ?_)
    clear a0 a1 a2 a3
    have HTH : Hid (W.there (w.heap.size + 1 + 1) 0 4) := HR8.out.thereAt
    have HF : Hid (Blk (W.setCells (w.heap.size + 1 + 1) 0 (#[.int .i64 d.me, .slice pi d.xs.length ci, .slice po d.os.length co, .int .i64 d.far] : Array Value).toList) (w.heap.size + 1 + 1) #[.int .i64 d.me, .slice pi d.xs.length ci, .slice po d.os.length co, .int .i64 d.far] 29 ∧ Below w.heap.size w (W.setCells (w.heap.size + 1 + 1) 0 (#[.int .i64 d.me, .slice pi d.xs.length ci, .slice po d.os.length co, .int .i64 d.far] : Array Value).toList)) := ⟨blk_put_all HR8.out _ rfl, below_put (by omega) _ _ _ _ HB8.out⟩
    refine wpList_store_mid rfl 29 (.tmp 6) (.tmp 20) rfl (w.heap.size + 1 + 1) 0 #[.int .i64 d.me, .slice pi d.xs.length ci, .slice po d.os.length co, .int .i64 d.far] rfl rfl HTH.out (infoD4 rfl) (all_oneCell_toArray (by intro u hu; simp at hu; rcases hu with rfl | rfl | rfl | rfl <;> rfl)) ?_
    generalize World.setCells W _ _ _ = w8 at *
    clear HTH
    go_wp2_with fail
    have hf := HF.out.1
    refine bodyPost_ret (v := .tuple #[.agg #[.int .i64 d.me, .slice pi d.xs.length ci, .slice po d.os.length co, .int .i64 d.far], .slice none 0 0, .int .i64 140]) (by simp [results, Try.results30, go_sem, hf.cell 0, hf.cell 1, hf.cell 2, hf.cell 3]) rfl ⟨HF.out.2, .inl ⟨by decide, rfl⟩⟩
end Go.Proofs.Ytbpfbebebppleaa
namespace Go.Proofs.Ytbpfbebebppleaa
open Go.RowKit
set_option linter.unusedSimpArgs false
theorem findO_mem {os : List Ord} {s n : Int} {q : Ord} (h : findO os s n = some q) : q ∈ os := List.mem_of_find?_eq_some h
set_option linter.unusedSimpArgs false in
set_option maxHeartbeats 4000000 in
set_option maxRecDepth 100000 in
theorem dpropose_any (w : World) (d : Dsk) (pi po : Option Addr) (ci co : Nat) (m : Msg) (vl vn : Value) (fro : Int) (h : DRow w d pi ci po co) (hn : d.xs.length < 1024) (P : Nat → Prop) (hw0 : ∀ b, P b → b < w.heap.size) (hat : At P (.slice pi d.xs.length ci) d.xs.length) (hdo : d.Ok) (hok : d.May (proI d m fro)) :
    Calls Try.prog 26 #[(deskV d.me pi d.xs.length ci po d.os.length co d.far), m.v vl vn, .int .i64 fro] w fun y w' => ActPost w P d pi po ci co (proI d m fro) (proK d m) y w' := by
  have HT := Lib.hid (three_new w #[.int .i64 d.me, .slice pi d.xs.length ci, .slice po d.os.length co, .int .i64 d.far] #[.int .i64 m.k, .int .i64 m.s, .int .i64 m.n, .int .i64 m.b, .int .i64 m.c, .int .i64 m.r, .int .i64 m.y, .int .i64 m.a, .bool m.t, vl, vn] #[.int .i64 0, .slice none 0 0, .slice none 0 0, .int .i64 0] 29 40 29)
  have HH := Lib.hid h
  have HNN := Lib.hid hn
  have HW0 := Lib.hid hw0
  have HA0 := Lib.hid hat
  have HOKQ := Lib.hid hok
  clear hn hw0 hat hok
  obtain ⟨r, hr⟩ : ∃ r, proI d m fro = r := ⟨_, rfl⟩
  obtain ⟨ks, hks⟩ : ∃ ks, proK d m = ks := ⟨_, rfl⟩
  rw [hr] at HOKQ ⊢
  rw [hks]
  unfold proI at hr
  unfold proK at hks
  have HG := Lib.hid (mitem_any m vl vn (((w.alloc (.cells #[.int .i64 d.me, .slice pi d.xs.length ci, .slice po d.os.length co, .int .i64 d.far] 29)).alloc (.cells #[.int .i64 m.k, .int .i64 m.s, .int .i64 m.n, .int .i64 m.b, .int .i64 m.c, .int .i64 m.r, .int .i64 m.y, .int .i64 m.a, .bool m.t, vl, vn] 40)).alloc (.cells #[.int .i64 0, .slice none 0 0, .slice none 0 0, .int .i64 0] 29)))
  have HDO := Lib.hid hdo
  have hqs : (itemM m).s = m.s := rfl
  have hqb : (itemM m).b = m.b := rfl
  rw [← hqs, ← hqb] at hr
  clear h hqs hqb hdo
  generalize hq : itemM m = q at HG hr hks
  clear hq
  have HKQ := Lib.hid hks
  clear hks
  obtain ⟨e, hce⟩ : ∃ e, chkI q = e := ⟨_, rfl⟩
  rw [hce] at HG hr
  have HCE := Lib.hid hce
  clear hce
  unfold Msg.v at HG
  by_cases he0 : e = 0
  · subst he0
    simp only [if_true] at HG
    simp only [ne_eq, not_true_eq_false, if_false] at hr
    have HRQ := Lib.hid hr
    clear hr
    unfold Itm.v at HG
    have HCQ : Hid (chkI q = 0) := HCE
    clear HCE
    unfold deskV Msg.v
    go_enter Try.func26, Try.ntmps26
    go_upto_region 1 with fail
    generalize (((w.alloc (.cells #[.int .i64 d.me, .slice pi d.xs.length ci, .slice po d.os.length co, .int .i64 d.far] 29)).alloc (.cells #[.int .i64 m.k, .int .i64 m.s, .int .i64 m.n, .int .i64 m.b, .int .i64 m.c, .int .i64 m.r, .int .i64 m.y, .int .i64 m.a, .bool m.t, vl, vn] 40)).alloc (.cells #[.int .i64 0, .slice none 0 0, .slice none 0 0, .int .i64 0] 29)) = W at *
    have c0 : W.cell? ⟨w.heap.size + 1, 0, none⟩ = some (.int .i64 m.k) := HT.out.b1.cell 0
    have c1 : W.cell? ⟨w.heap.size + 1, 1, none⟩ = some (.int .i64 m.s) := HT.out.b1.cell 1
    have c2 : W.cell? ⟨w.heap.size + 1, 2, none⟩ = some (.int .i64 m.n) := HT.out.b1.cell 2
    have c3 : W.cell? ⟨w.heap.size + 1, 3, none⟩ = some (.int .i64 m.b) := HT.out.b1.cell 3
    have c4 : W.cell? ⟨w.heap.size + 1, 4, none⟩ = some (.int .i64 m.c) := HT.out.b1.cell 4
    have c5 : W.cell? ⟨w.heap.size + 1, 5, none⟩ = some (.int .i64 m.r) := HT.out.b1.cell 5
    have c6 : W.cell? ⟨w.heap.size + 1, 6, none⟩ = some (.int .i64 m.y) := HT.out.b1.cell 6
    have c7 : W.cell? ⟨w.heap.size + 1, 7, none⟩ = some (.int .i64 m.a) := HT.out.b1.cell 7
    have c8 : W.cell? ⟨w.heap.size + 1, 8, none⟩ = some (.bool m.t) := HT.out.b1.cell 8
    have c9 : W.cell? ⟨w.heap.size + 1, 9, none⟩ = some (vl) := HT.out.b1.cell 9
    have c10 : W.cell? ⟨w.heap.size + 1, 10, none⟩ = some (vn) := HT.out.b1.cell 10
    go_wp2_with fail
    clear c0 c1 c2 c3 c4 c5 c6 c7 c8 c9 c10
    refine HG.out.mono ?_
    rintro y w1 ⟨rfl, hb⟩
    have HB7 := Lib.hid ((HT.out.low.trans (hb.mono HT.out.low.size)).alloc (HT.out.low.trans (hb.mono HT.out.low.size)).size (.cells #[.int .i64 q.s, .int .i64 q.n, .int .i64 q.b, .int .i64 q.c, .int .i64 q.a, .int .i64 q.r, .int .i64 q.t, .int .i64 q.y] 64))
    have HD7 : Hid (Blk (w1.alloc (.cells #[.int .i64 q.s, .int .i64 q.n, .int .i64 q.b, .int .i64 q.c, .int .i64 q.a, .int .i64 q.r, .int .i64 q.t, .int .i64 q.y] 64)) w.heap.size #[.int .i64 d.me, .slice pi d.xs.length ci, .slice po d.os.length co, .int .i64 d.far] 29) := (HT.out.b0.below hb HT.out.b0.lt).alloc _
    have HM7 : Hid (Blk (w1.alloc (.cells #[.int .i64 q.s, .int .i64 q.n, .int .i64 q.b, .int .i64 q.c, .int .i64 q.a, .int .i64 q.r, .int .i64 q.t, .int .i64 q.y] 64)) (w.heap.size + 1) #[.int .i64 m.k, .int .i64 m.s, .int .i64 m.n, .int .i64 m.b, .int .i64 m.c, .int .i64 m.r, .int .i64 m.y, .int .i64 m.a, .bool m.t, vl, vn] 40) := (HT.out.b1.below hb HT.out.b1.lt).alloc _
    have HR7 : Hid (Blk (w1.alloc (.cells #[.int .i64 q.s, .int .i64 q.n, .int .i64 q.b, .int .i64 q.c, .int .i64 q.a, .int .i64 q.r, .int .i64 q.t, .int .i64 q.y] 64)) (w.heap.size + 1 + 1) #[.int .i64 0, .slice none 0 0, .slice none 0 0, .int .i64 0] 29) := (HT.out.b2.below hb HT.out.b2.lt).alloc _
    have HQ6 := Lib.hid (Blk.new w1 #[.int .i64 q.s, .int .i64 q.n, .int .i64 q.b, .int .i64 q.c, .int .i64 q.a, .int .i64 q.r, .int .i64 q.t, .int .i64 q.y] 64)
    have HGX7 : Hid (w.heap.size + 1 + 1 < w1.heap.size) := by show _ < _; have h1 := HT.out.b2.lt; have h2 := hb.size; omega
    clear hb HG HT
    go_upto_region 2 with fail
    generalize w1.alloc (.cells #[.int .i64 q.s, .int .i64 q.n, .int .i64 q.b, .int .i64 q.c, .int .i64 q.a, .int .i64 q.r, .int .i64 q.t, .int .i64 q.y] 64) = w6 at *
    generalize w1.heap.size = gx at *
    have HB6 := HB7
    have HD6 := HD7
    have HM6 := HM7
    have HR6 := HR7
    have HGX := HGX7
    clear HB7 HD7 HM7 HR7 HGX7
    go_upto_region 4 with fail
    by_cases h1 : q.s = fro
    · have h1' : (q.s != fro) = false := by simpa using h1
      by_cases h2 : q.b = d.me
      · have h2' : (q.b != d.me) = false := by simpa using h2
        have HRQ2 := HRQ.out
        rw [if_neg (by rintro (h | h); exact h h1; exact h h2)] at HRQ2
        clear HRQ
        have HRQ := Lib.hid HRQ2
        clear h1 h2 HRQ2
        have a0 : w6.cell? ⟨w.heap.size, 0, none⟩ = some (.int .i64 d.me) := HD6.out.cell 0
        have x0 : w6.cell? ⟨gx, 0, none⟩ = some (.int .i64 q.s) := HQ6.out.cell 0
        have x2 : w6.cell? ⟨gx, 2, none⟩ = some (.int .i64 q.b) := HQ6.out.cell 2
        go_upto_region 6 with fail
        clear a0 x0 x2
        clear h1' h2'
        have hfo : ∀ q', findX d.xs q.s q.n = some q' → -1000 ≤ q'.r ∧ q'.r ≤ 1000 := fun q' hq' => by
          obtain ⟨_, h2, _⟩ := chk_ok (HDO.out.its q' (findX_mem hq').1).1
          unfold numsOk at h2
          omega
        have HG := Lib.hid (follows_any w6 d pi po ci co q (HH.out.kept HB6.out) hfo)
        have hex : ∀ o, findO d.os q.s q.n = some o → Fits o.a := fun o ho => HDO.out.os o (findO_mem ho)
        have hqa : Fits q.a := by
          obtain ⟨_, h2, _⟩ := chk_ok HCQ.out
          unfold numsOk at h2
          unfold Fits
          omega
        have HEX := Lib.hid (fun (W : World) (hb : Below w.heap.size w W) => expects_any W d pi po ci co q (HH.out.kept hb) hex hqa HDO.out.far)
        clear hfo hex hqa
        generalize followsB d q = fb at *
        generalize expectsB d q = eb at *
        unfold deskV Itm.v at HG HEX
        have a0 : w6.cell? ⟨w.heap.size, 0, none⟩ = some (.int .i64 d.me) := HD6.out.cell 0
        have a1 : w6.cell? ⟨w.heap.size, 1, none⟩ = some (.slice pi d.xs.length ci) := HD6.out.cell 1
        have a2 : w6.cell? ⟨w.heap.size, 2, none⟩ = some (.slice po d.os.length co) := HD6.out.cell 2
        have a3 : w6.cell? ⟨w.heap.size, 3, none⟩ = some (.int .i64 d.far) := HD6.out.cell 3
        have x0 : w6.cell? ⟨gx, 0, none⟩ = some (.int .i64 q.s) := HQ6.out.cell 0
        have x1 : w6.cell? ⟨gx, 1, none⟩ = some (.int .i64 q.n) := HQ6.out.cell 1
        have x2 : w6.cell? ⟨gx, 2, none⟩ = some (.int .i64 q.b) := HQ6.out.cell 2
        have x3 : w6.cell? ⟨gx, 3, none⟩ = some (.int .i64 q.c) := HQ6.out.cell 3
        have x4 : w6.cell? ⟨gx, 4, none⟩ = some (.int .i64 q.a) := HQ6.out.cell 4
        have x5 : w6.cell? ⟨gx, 5, none⟩ = some (.int .i64 q.r) := HQ6.out.cell 5
        have x6 : w6.cell? ⟨gx, 6, none⟩ = some (.int .i64 q.t) := HQ6.out.cell 6
        have x7 : w6.cell? ⟨gx, 7, none⟩ = some (.int .i64 q.y) := HQ6.out.cell 7
        go_wp2_with fail
        clear a0 a1 a2 a3 x0 x1 x2 x3 x4 x5 x6 x7
        refine HG.out.mono ?_
        rintro y w2 ⟨rfl, hb2⟩
        have HD7 := Lib.hid (HD6.out.below hb2 HD6.out.lt)
        have HR7 := Lib.hid (HR6.out.below hb2 HR6.out.lt)
        have HQ7 := Lib.hid (HQ6.out.below hb2 HQ6.out.lt)
        have HB7 := Lib.hid (HB6.out.trans (hb2.mono HB6.out.size))
        have HM7 := Lib.hid (HM6.out.below hb2 HM6.out.lt)
        clear hb2 HG HD6 HR6 HQ6 HB6 HM6
        cases fb with
        | false =>
          have HRP2 := HRQ.out
          simp only [if_true] at HRP2
          have HRP := Lib.hid HRP2
          clear HRQ HRP2
          go_upto_region 7 with fail
          have a0 : w2.cell? ⟨w.heap.size, 0, none⟩ = some (.int .i64 d.me) := HD7.out.cell 0
          have a1 : w2.cell? ⟨w.heap.size, 1, none⟩ = some (.slice pi d.xs.length ci) := HD7.out.cell 1
          have a2 : w2.cell? ⟨w.heap.size, 2, none⟩ = some (.slice po d.os.length co) := HD7.out.cell 2
          have a3 : w2.cell? ⟨w.heap.size, 3, none⟩ = some (.int .i64 d.far) := HD7.out.cell 3
          have HR8 := Lib.hid HR7.out
          have HB8 := Lib.hid HB7.out
          go_wp2_with (with_reducible refine stop_storeT 29 (.tmp 6) (.tmp 41) rfl ?_)
          clear a0 a1 a2 a3
          have HTH : Hid (w2.there (w.heap.size + 1 + 1) 0 4) := HR8.out.thereAt
          have HF : Hid (Blk (w2.setCells (w.heap.size + 1 + 1) 0 (#[.int .i64 d.me, .slice pi d.xs.length ci, .slice po d.os.length co, .int .i64 d.far] : Array Value).toList) (w.heap.size + 1 + 1) #[.int .i64 d.me, .slice pi d.xs.length ci, .slice po d.os.length co, .int .i64 d.far] 29 ∧ Below w.heap.size w (w2.setCells (w.heap.size + 1 + 1) 0 (#[.int .i64 d.me, .slice pi d.xs.length ci, .slice po d.os.length co, .int .i64 d.far] : Array Value).toList)) := ⟨blk_put_all HR8.out _ rfl, below_put (by omega) _ _ _ _ HB8.out⟩
          refine wpList_store_mid rfl 29 (.tmp 6) (.tmp 41) rfl (w.heap.size + 1 + 1) 0 #[.int .i64 d.me, .slice pi d.xs.length ci, .slice po d.os.length co, .int .i64 d.far] rfl rfl HTH.out (infoD4 rfl) (all_oneCell_toArray (by intro u hu; simp at hu; rcases hu with rfl | rfl | rfl | rfl <;> rfl)) ?_
          generalize World.setCells w2 _ _ _ = w8 at *
          clear HTH
          go_wp2_with fail
          have hf := HF.out.1
          have hrr := HRP.out
          subst hrr
          refine bodyPost_ret (v := .tuple #[.agg #[.int .i64 d.me, .slice pi d.xs.length ci, .slice po d.os.length co, .int .i64 d.far], .slice none 0 0, .int .i64 90]) (by simp [results, Try.results26, go_sem, hf.cell 0, hf.cell 1, hf.cell 2, hf.cell 3]) rfl ⟨HF.out.2, .inl ⟨by decide, rfl⟩⟩
        | true =>
          have HRQ2 := HRQ.out
          simp only [Bool.true_eq_false, if_false] at HRQ2
          clear HRQ
          have HRQ := Lib.hid HRQ2
          clear HRQ2
          go_upto_region 8 with fail
          have HG := Lib.hid (HEX.out w2 HB7.out)
          clear HEX
          have a0 : w2.cell? ⟨w.heap.size, 0, none⟩ = some (.int .i64 d.me) := HD7.out.cell 0
          have a1 : w2.cell? ⟨w.heap.size, 1, none⟩ = some (.slice pi d.xs.length ci) := HD7.out.cell 1
          have a2 : w2.cell? ⟨w.heap.size, 2, none⟩ = some (.slice po d.os.length co) := HD7.out.cell 2
          have a3 : w2.cell? ⟨w.heap.size, 3, none⟩ = some (.int .i64 d.far) := HD7.out.cell 3
          have x0 : w2.cell? ⟨gx, 0, none⟩ = some (.int .i64 q.s) := HQ7.out.cell 0
          have x1 : w2.cell? ⟨gx, 1, none⟩ = some (.int .i64 q.n) := HQ7.out.cell 1
          have x2 : w2.cell? ⟨gx, 2, none⟩ = some (.int .i64 q.b) := HQ7.out.cell 2
          have x3 : w2.cell? ⟨gx, 3, none⟩ = some (.int .i64 q.c) := HQ7.out.cell 3
          have x4 : w2.cell? ⟨gx, 4, none⟩ = some (.int .i64 q.a) := HQ7.out.cell 4
          have x5 : w2.cell? ⟨gx, 5, none⟩ = some (.int .i64 q.r) := HQ7.out.cell 5
          have x6 : w2.cell? ⟨gx, 6, none⟩ = some (.int .i64 q.t) := HQ7.out.cell 6
          have x7 : w2.cell? ⟨gx, 7, none⟩ = some (.int .i64 q.y) := HQ7.out.cell 7
          go_wp2_with fail
          clear a0 a1 a2 a3 x0 x1 x2 x3 x4 x5 x6 x7
          refine HG.out.mono ?_
          rintro y w6 ⟨rfl, hb2⟩
          have HD6 := Lib.hid (HD7.out.below hb2 HD7.out.lt)
          have HR6 := Lib.hid (HR7.out.below hb2 HR7.out.lt)
          have HQ6 := Lib.hid (HQ7.out.below hb2 HQ7.out.lt)
          have HB6 := Lib.hid (HB7.out.trans (hb2.mono HB7.out.size))
          have HM6 := Lib.hid (HM7.out.below hb2 HM7.out.lt)
          clear hb2 HG HD7 HR7 HQ7 HB7 HM7
          cases eb with
          | true =>
            have HRQ2 := HRQ.out
            have hkp := HKQ.out
            simp only [if_true] at HRQ2 hkp
            subst hkp
            clear HRQ HKQ
            have HRQ := Lib.hid HRQ2
            clear HRQ2
            go_upto_region 9 with fail
            have HG := Lib.hid (agree_any q w6)
            have HRQ2 := HRQ.out
            clear HRQ
            rw [HRQ2] at HG
            clear HRQ2
            obtain ⟨q1, e1⟩ := r
            unfold ansI Itm.v at HG
            have x0 : w6.cell? ⟨gx, 0, none⟩ = some (.int .i64 q.s) := HQ6.out.cell 0
            have x1 : w6.cell? ⟨gx, 1, none⟩ = some (.int .i64 q.n) := HQ6.out.cell 1
            have x2 : w6.cell? ⟨gx, 2, none⟩ = some (.int .i64 q.b) := HQ6.out.cell 2
            have x3 : w6.cell? ⟨gx, 3, none⟩ = some (.int .i64 q.c) := HQ6.out.cell 3
            have x4 : w6.cell? ⟨gx, 4, none⟩ = some (.int .i64 q.a) := HQ6.out.cell 4
            have x5 : w6.cell? ⟨gx, 5, none⟩ = some (.int .i64 q.r) := HQ6.out.cell 5
            have x6 : w6.cell? ⟨gx, 6, none⟩ = some (.int .i64 q.t) := HQ6.out.cell 6
            have x7 : w6.cell? ⟨gx, 7, none⟩ = some (.int .i64 q.y) := HQ6.out.cell 7
            go_wp2_with fail
            clear x0 x1 x2 x3 x4 x5 x6 x7
            refine HG.out.mono ?_
            rintro y w2 ⟨rfl, hb2⟩
            have HD2 := Lib.hid (HD6.out.below hb2 HD6.out.lt)
            have HR2 := Lib.hid (HR6.out.below hb2 HR6.out.lt)
            have HQ2 := Lib.hid (HQ6.out.below hb2 HQ6.out.lt)
            have HB2 := Lib.hid (HB6.out.trans (hb2.mono HB6.out.size))
            have HM2 := Lib.hid (HM6.out.below hb2 HM6.out.lt)
            clear hb2 HG HD6 HR6 HQ6 HB6 HM6
            go_wp2_with (with_reducible refine stop_storeT 64 (.tmp 9) (.tmp 48) rfl ?_)
            have HTH : Hid (w2.there gx 0 8) := HQ2.out.thereAt
            have HFF : Hid (Blk (w2.setCells gx 0 (#[.int .i64 q1.s, .int .i64 q1.n, .int .i64 q1.b, .int .i64 q1.c, .int .i64 q1.a, .int .i64 q1.r, .int .i64 q1.t, .int .i64 q1.y] : Array Value).toList) gx #[.int .i64 q1.s, .int .i64 q1.n, .int .i64 q1.b, .int .i64 q1.c, .int .i64 q1.a, .int .i64 q1.r, .int .i64 q1.t, .int .i64 q1.y] 64 ∧ Chg gx w2 (w2.setCells gx 0 (#[.int .i64 q1.s, .int .i64 q1.n, .int .i64 q1.b, .int .i64 q1.c, .int .i64 q1.a, .int .i64 q1.r, .int .i64 q1.t, .int .i64 q1.y] : Array Value).toList)) := ⟨blk_put_all HQ2.out _ rfl, chg_putL _ _ _ _ _ (Chg.refl _ w2)⟩
            refine wpList_store_mid rfl 64 (.tmp 9) (.tmp 48) rfl gx 0 #[.int .i64 q1.s, .int .i64 q1.n, .int .i64 q1.b, .int .i64 q1.c, .int .i64 q1.a, .int .i64 q1.r, .int .i64 q1.t, .int .i64 q1.y] rfl rfl HTH.out (infoI8 rfl) (all_oneCell_toArray (encI.one q1)) ?_
            generalize World.setCells w2 gx _ _ = w6 at *
            clear HTH
            have HD6 := Lib.hid (HD2.out.chg HFF.out.2 (by have := HGX.out; omega))
            have HM6 := Lib.hid (HM2.out.chg HFF.out.2 (by have := HGX.out; omega))
            have HR6 := Lib.hid (HR2.out.chg HFF.out.2 (by have := HGX.out; omega))
            have HQ6 := Lib.hid HFF.out.1
            have HB6 := Lib.hid (HB2.out.trans (HFF.out.2.below (by have := HGX.out; omega) HB2.out.size))
            clear HD2 HR2 HQ2 HB2 HM2 HFF
            go_upto_region 10 with fail
            by_cases he1 : e1 = 0
            · subst he1
              have HOK : Hid (chkI q1 = 0 ∧ (q1.s = d.me ∨ q1.b = d.me)) := HOKQ.out rfl
              have a0 : w6.cell? ⟨w.heap.size, 0, none⟩ = some (.int .i64 d.me) := HD6.out.cell 0
              have a1 : w6.cell? ⟨w.heap.size, 1, none⟩ = some (.slice pi d.xs.length ci) := HD6.out.cell 1
              have a2 : w6.cell? ⟨w.heap.size, 2, none⟩ = some (.slice po d.os.length co) := HD6.out.cell 2
              have a3 : w6.cell? ⟨w.heap.size, 3, none⟩ = some (.int .i64 d.far) := HD6.out.cell 3
              have x0 : w6.cell? ⟨gx, 0, none⟩ = some (.int .i64 q1.s) := HQ6.out.cell 0
              have x1 : w6.cell? ⟨gx, 1, none⟩ = some (.int .i64 q1.n) := HQ6.out.cell 1
              have x2 : w6.cell? ⟨gx, 2, none⟩ = some (.int .i64 q1.b) := HQ6.out.cell 2
              have x3 : w6.cell? ⟨gx, 3, none⟩ = some (.int .i64 q1.c) := HQ6.out.cell 3
              have x4 : w6.cell? ⟨gx, 4, none⟩ = some (.int .i64 q1.a) := HQ6.out.cell 4
              have x5 : w6.cell? ⟨gx, 5, none⟩ = some (.int .i64 q1.r) := HQ6.out.cell 5
              have x6 : w6.cell? ⟨gx, 6, none⟩ = some (.int .i64 q1.t) := HQ6.out.cell 6
              have x7 : w6.cell? ⟨gx, 7, none⟩ = some (.int .i64 q1.y) := HQ6.out.cell 7
              have HBH := Lib.hid (behind_1 (w6.alloc (.cells #[.int .i64 7] 3)) d pi po ci co q1 7 w6.heap.size 0 1 ((Blk.new w6 #[.int .i64 7] 3).cell 0) ((HH.out.kept HB6.out).kept (oneB w6 _)) HOK.out.1 HOK.out.2 HNN.out P (fun b hb => Nat.lt_of_lt_of_le (HW0.out b hb) (Nat.le_trans HB6.out.size (oneB w6 _).size)) HA0.out)
              unfold deskV Itm.v at HBH
              go_wp2_with fail
              clear a0 a1 a2 a3 x0 x1 x2 x3 x4 x5 x6 x7
              refine HBH.out.mono ?_
              rintro y w7 ⟨pi2, ci2, vs, rfl, hdr, hat7, hown, hb7⟩
              have hb67 : Below w6.heap.size w6 w7 := (oneB w6 _).trans (hb7.mono (by simp))
              have HR7 := Lib.hid (HR6.out.below hb67 HR6.out.lt)
              have HB7 := Lib.hid (HB6.out.trans (hb67.mono HB6.out.size))
              have HZ7 : Hid (w.heap.size + 1 + 1 < w6.heap.size ∧ w.heap.size ≤ w6.heap.size) := ⟨HR6.out.lt, HB6.out.size⟩
              go_wp2_with (with_reducible refine stop_storeT 29 (.tmp 6) (.tmp 55) rfl ?_)
              have HTH : Hid (w7.there (w.heap.size + 1 + 1) 0 4) := HR7.out.thereAt
              have HF : Hid (Blk (w7.setCells (w.heap.size + 1 + 1) 0 (#[.int .i64 d.me, .slice pi2 (insX d.xs q1).length ci2, .slice po d.os.length co, .int .i64 d.far] : Array Value).toList) (w.heap.size + 1 + 1) #[.int .i64 d.me, .slice pi2 (insX d.xs q1).length ci2, .slice po d.os.length co, .int .i64 d.far] 29 ∧ Below w.heap.size w (w7.setCells (w.heap.size + 1 + 1) 0 (#[.int .i64 d.me, .slice pi2 (insX d.xs q1).length ci2, .slice po d.os.length co, .int .i64 d.far] : Array Value).toList) ∧ Chg (w.heap.size + 1 + 1) w7 (w7.setCells (w.heap.size + 1 + 1) 0 (#[.int .i64 d.me, .slice pi2 (insX d.xs q1).length ci2, .slice po d.os.length co, .int .i64 d.far] : Array Value).toList)) := ⟨blk_put_all HR7.out _ rfl, below_put (by omega) _ _ _ _ HB7.out, chg_putL _ _ _ _ _ (Chg.refl _ w7)⟩
              refine wpList_store_mid rfl 29 (.tmp 6) (.tmp 55) rfl (w.heap.size + 1 + 1) 0 #[.int .i64 d.me, .slice pi2 (insX d.xs q1).length ci2, .slice po d.os.length co, .int .i64 d.far] rfl rfl HTH.out (infoD4 rfl) (all_oneCell_toArray (by intro u hu; simp at hu; rcases hu with rfl | rfl | rfl | rfl <;> rfl)) ?_
              generalize World.setCells w7 _ _ _ = w8 at *
              clear HTH
              go_wp2_with fail
              have hf := HF.out.1
              refine bodyPost_ret (v := .tuple #[.agg #[.int .i64 d.me, .slice pi2 (insX d.xs q1).length ci2, .slice po d.os.length co, .int .i64 d.far], vs, .int .i64 0]) (by simp [results, Try.results26, go_sem, hf.cell 0, hf.cell 1, hf.cell 2, hf.cell 3]) rfl ⟨HF.out.2.1, .inr ⟨rfl, pi2, ci2, vs, rfl, ?_, ?_, ?_, ?_⟩⟩
              · exact ⟨hdr.items.keepP hat7 (KeepP.of_chg HF.out.2.2 (fun hb => by have h2 := HZ7.out; have h3 := HW0.out; rcases hb with hb | hb; (have h4 := h3 _ hb; omega); ((try simp at hb); omega))), HH.out.orders.kept HF.out.2.1, hdr.sx, hdr.so, hdr.nx, hdr.no⟩
              · exact hat7.imp (fun b hb => hb.imp id (fun h => by have h2 := HZ7.out; (try simp at h); omega))
              · intro h; cases h
              · exact ⟨(hown.1.stay (fun b hb => HF.out.2.2.2 b (hown.1.lt b hb) (by have h1 := hown.1.block_ge b hb; have h2 := HZ7.out; simp at h1; omega))).less (by have h2 := HZ7.out; simp; omega), hown.2⟩
            · have he := Lib.hid he1
              have heb : (e1 == 0) = false := by simpa using he1
              have hebn : (e1 != 0) = true := by simpa using he1
              clear he1
              clear heb hebn
              have a0 : w6.cell? ⟨w.heap.size, 0, none⟩ = some (.int .i64 d.me) := HD6.out.cell 0
              have a1 : w6.cell? ⟨w.heap.size, 1, none⟩ = some (.slice pi d.xs.length ci) := HD6.out.cell 1
              have a2 : w6.cell? ⟨w.heap.size, 2, none⟩ = some (.slice po d.os.length co) := HD6.out.cell 2
              have a3 : w6.cell? ⟨w.heap.size, 3, none⟩ = some (.int .i64 d.far) := HD6.out.cell 3
              have x0 : w6.cell? ⟨gx, 0, none⟩ = some (.int .i64 q1.s) := HQ6.out.cell 0
              have x1 : w6.cell? ⟨gx, 1, none⟩ = some (.int .i64 q1.n) := HQ6.out.cell 1
              have x2 : w6.cell? ⟨gx, 2, none⟩ = some (.int .i64 q1.b) := HQ6.out.cell 2
              have x3 : w6.cell? ⟨gx, 3, none⟩ = some (.int .i64 q1.c) := HQ6.out.cell 3
              have x4 : w6.cell? ⟨gx, 4, none⟩ = some (.int .i64 q1.a) := HQ6.out.cell 4
              have x5 : w6.cell? ⟨gx, 5, none⟩ = some (.int .i64 q1.r) := HQ6.out.cell 5
              have x6 : w6.cell? ⟨gx, 6, none⟩ = some (.int .i64 q1.t) := HQ6.out.cell 6
              have x7 : w6.cell? ⟨gx, 7, none⟩ = some (.int .i64 q1.y) := HQ6.out.cell 7
              have HBH := Lib.hid (behind_err (w6.alloc (.cells #[.int .i64 7] 3)) d pi po ci co q1 e1 (.slice (some ⟨w6.heap.size, 0, none⟩) 1 1) (by first | exact he.out | exact he1.out))
              unfold deskV Itm.v at HBH
              go_wp2_with fail
              clear a0 a1 a2 a3 x0 x1 x2 x3 x4 x5 x6 x7
              refine HBH.out.mono ?_
              rintro y w7 ⟨rfl, hb7⟩
              have hb67 : Below w6.heap.size w6 w7 := (oneB w6 _).trans (hb7.mono (by simp))
              have HR7 := Lib.hid (HR6.out.below hb67 HR6.out.lt)
              have HB7 := Lib.hid (HB6.out.trans (hb67.mono HB6.out.size))
              have HZ7 : Hid (w.heap.size + 1 + 1 < w6.heap.size ∧ w.heap.size ≤ w6.heap.size) := ⟨HR6.out.lt, HB6.out.size⟩
              go_wp2_with (with_reducible refine stop_storeT 29 (.tmp 6) (.tmp 55) rfl ?_)
              have HTH : Hid (w7.there (w.heap.size + 1 + 1) 0 4) := HR7.out.thereAt
              have HF : Hid (Blk (w7.setCells (w.heap.size + 1 + 1) 0 (#[.int .i64 d.me, .slice pi d.xs.length ci, .slice po d.os.length co, .int .i64 d.far] : Array Value).toList) (w.heap.size + 1 + 1) #[.int .i64 d.me, .slice pi d.xs.length ci, .slice po d.os.length co, .int .i64 d.far] 29 ∧ Below w.heap.size w (w7.setCells (w.heap.size + 1 + 1) 0 (#[.int .i64 d.me, .slice pi d.xs.length ci, .slice po d.os.length co, .int .i64 d.far] : Array Value).toList) ∧ Chg (w.heap.size + 1 + 1) w7 (w7.setCells (w.heap.size + 1 + 1) 0 (#[.int .i64 d.me, .slice pi d.xs.length ci, .slice po d.os.length co, .int .i64 d.far] : Array Value).toList)) := ⟨blk_put_all HR7.out _ rfl, below_put (by omega) _ _ _ _ HB7.out, chg_putL _ _ _ _ _ (Chg.refl _ w7)⟩
              refine wpList_store_mid rfl 29 (.tmp 6) (.tmp 55) rfl (w.heap.size + 1 + 1) 0 #[.int .i64 d.me, .slice pi d.xs.length ci, .slice po d.os.length co, .int .i64 d.far] rfl rfl HTH.out (infoD4 rfl) (all_oneCell_toArray (by intro u hu; simp at hu; rcases hu with rfl | rfl | rfl | rfl <;> rfl)) ?_
              generalize World.setCells w7 _ _ _ = w8 at *
              clear HTH
              go_wp2_with fail
              have hf := HF.out.1
              refine bodyPost_ret (v := .tuple #[.agg #[.int .i64 d.me, .slice pi d.xs.length ci, .slice po d.os.length co, .int .i64 d.far], .slice none 0 0, .int .i64 e1]) (by simp [results, Try.results26, go_sem, hf.cell 0, hf.cell 1, hf.cell 2, hf.cell 3]) rfl ⟨HF.out.2.1, .inl ⟨by first | exact he.out | exact he1.out, rfl⟩⟩
          | false =>
            have HRQ2 := HRQ.out
            have hkp := HKQ.out
            simp only [Bool.false_eq_true, if_false] at HRQ2 hkp
            subst hkp
            clear HRQ HKQ
            have HRQ := Lib.hid HRQ2
            clear HRQ2
            go_upto_region 11 with fail
            have HG := Lib.hid (dispute_any q w6)
            have HRQ2 := HRQ.out
            clear HRQ
            rw [HRQ2] at HG
            clear HRQ2
            obtain ⟨q1, e1⟩ := r
            unfold ansI Itm.v at HG
            have x0 : w6.cell? ⟨gx, 0, none⟩ = some (.int .i64 q.s) := HQ6.out.cell 0
            have x1 : w6.cell? ⟨gx, 1, none⟩ = some (.int .i64 q.n) := HQ6.out.cell 1
            have x2 : w6.cell? ⟨gx, 2, none⟩ = some (.int .i64 q.b) := HQ6.out.cell 2
            have x3 : w6.cell? ⟨gx, 3, none⟩ = some (.int .i64 q.c) := HQ6.out.cell 3
            have x4 : w6.cell? ⟨gx, 4, none⟩ = some (.int .i64 q.a) := HQ6.out.cell 4
            have x5 : w6.cell? ⟨gx, 5, none⟩ = some (.int .i64 q.r) := HQ6.out.cell 5
            have x6 : w6.cell? ⟨gx, 6, none⟩ = some (.int .i64 q.t) := HQ6.out.cell 6
            have x7 : w6.cell? ⟨gx, 7, none⟩ = some (.int .i64 q.y) := HQ6.out.cell 7
            go_wp2_with fail
            clear x0 x1 x2 x3 x4 x5 x6 x7
            refine HG.out.mono ?_
            rintro y w2 ⟨rfl, hb2⟩
            have HD2 := Lib.hid (HD6.out.below hb2 HD6.out.lt)
            have HR2 := Lib.hid (HR6.out.below hb2 HR6.out.lt)
            have HQ2 := Lib.hid (HQ6.out.below hb2 HQ6.out.lt)
            have HB2 := Lib.hid (HB6.out.trans (hb2.mono HB6.out.size))
            have HM2 := Lib.hid (HM6.out.below hb2 HM6.out.lt)
            clear hb2 HG HD6 HR6 HQ6 HB6 HM6
            go_wp2_with (with_reducible refine stop_storeT 64 (.tmp 9) (.tmp 61) rfl ?_)
            have HTH : Hid (w2.there gx 0 8) := HQ2.out.thereAt
            have HFF : Hid (Blk (w2.setCells gx 0 (#[.int .i64 q1.s, .int .i64 q1.n, .int .i64 q1.b, .int .i64 q1.c, .int .i64 q1.a, .int .i64 q1.r, .int .i64 q1.t, .int .i64 q1.y] : Array Value).toList) gx #[.int .i64 q1.s, .int .i64 q1.n, .int .i64 q1.b, .int .i64 q1.c, .int .i64 q1.a, .int .i64 q1.r, .int .i64 q1.t, .int .i64 q1.y] 64 ∧ Chg gx w2 (w2.setCells gx 0 (#[.int .i64 q1.s, .int .i64 q1.n, .int .i64 q1.b, .int .i64 q1.c, .int .i64 q1.a, .int .i64 q1.r, .int .i64 q1.t, .int .i64 q1.y] : Array Value).toList)) := ⟨blk_put_all HQ2.out _ rfl, chg_putL _ _ _ _ _ (Chg.refl _ w2)⟩
            refine wpList_store_mid rfl 64 (.tmp 9) (.tmp 61) rfl gx 0 #[.int .i64 q1.s, .int .i64 q1.n, .int .i64 q1.b, .int .i64 q1.c, .int .i64 q1.a, .int .i64 q1.r, .int .i64 q1.t, .int .i64 q1.y] rfl rfl HTH.out (infoI8 rfl) (all_oneCell_toArray (encI.one q1)) ?_
            generalize World.setCells w2 gx _ _ = w6 at *
            clear HTH
            have HD6 := Lib.hid (HD2.out.chg HFF.out.2 (by have := HGX.out; omega))
            have HM6 := Lib.hid (HM2.out.chg HFF.out.2 (by have := HGX.out; omega))
            have HR6 := Lib.hid (HR2.out.chg HFF.out.2 (by have := HGX.out; omega))
            have HQ6 := Lib.hid HFF.out.1
            have HB6 := Lib.hid (HB2.out.trans (HFF.out.2.below (by have := HGX.out; omega) HB2.out.size))
            clear HD2 HR2 HQ2 HB2 HM2 HFF
            go_upto_region 12 with fail
            by_cases he1 : e1 = 0
            · subst he1
              have HOK : Hid (chkI q1 = 0 ∧ (q1.s = d.me ∨ q1.b = d.me)) := HOKQ.out rfl
              have a0 : w6.cell? ⟨w.heap.size, 0, none⟩ = some (.int .i64 d.me) := HD6.out.cell 0
              have a1 : w6.cell? ⟨w.heap.size, 1, none⟩ = some (.slice pi d.xs.length ci) := HD6.out.cell 1
              have a2 : w6.cell? ⟨w.heap.size, 2, none⟩ = some (.slice po d.os.length co) := HD6.out.cell 2
              have a3 : w6.cell? ⟨w.heap.size, 3, none⟩ = some (.int .i64 d.far) := HD6.out.cell 3
              have x0 : w6.cell? ⟨gx, 0, none⟩ = some (.int .i64 q1.s) := HQ6.out.cell 0
              have x1 : w6.cell? ⟨gx, 1, none⟩ = some (.int .i64 q1.n) := HQ6.out.cell 1
              have x2 : w6.cell? ⟨gx, 2, none⟩ = some (.int .i64 q1.b) := HQ6.out.cell 2
              have x3 : w6.cell? ⟨gx, 3, none⟩ = some (.int .i64 q1.c) := HQ6.out.cell 3
              have x4 : w6.cell? ⟨gx, 4, none⟩ = some (.int .i64 q1.a) := HQ6.out.cell 4
              have x5 : w6.cell? ⟨gx, 5, none⟩ = some (.int .i64 q1.r) := HQ6.out.cell 5
              have x6 : w6.cell? ⟨gx, 6, none⟩ = some (.int .i64 q1.t) := HQ6.out.cell 6
              have x7 : w6.cell? ⟨gx, 7, none⟩ = some (.int .i64 q1.y) := HQ6.out.cell 7
              have HBH := Lib.hid (behind_1 (w6.alloc (.cells #[.int .i64 8] 3)) d pi po ci co q1 8 w6.heap.size 0 1 ((Blk.new w6 #[.int .i64 8] 3).cell 0) ((HH.out.kept HB6.out).kept (oneB w6 _)) HOK.out.1 HOK.out.2 HNN.out P (fun b hb => Nat.lt_of_lt_of_le (HW0.out b hb) (Nat.le_trans HB6.out.size (oneB w6 _).size)) HA0.out)
              unfold deskV Itm.v at HBH
              go_wp2_with fail
              clear a0 a1 a2 a3 x0 x1 x2 x3 x4 x5 x6 x7
              refine HBH.out.mono ?_
              rintro y w7 ⟨pi2, ci2, vs, rfl, hdr, hat7, hown, hb7⟩
              have hb67 : Below w6.heap.size w6 w7 := (oneB w6 _).trans (hb7.mono (by simp))
              have HR7 := Lib.hid (HR6.out.below hb67 HR6.out.lt)
              have HB7 := Lib.hid (HB6.out.trans (hb67.mono HB6.out.size))
              have HZ7 : Hid (w.heap.size + 1 + 1 < w6.heap.size ∧ w.heap.size ≤ w6.heap.size) := ⟨HR6.out.lt, HB6.out.size⟩
              go_wp2_with (with_reducible refine stop_storeT 29 (.tmp 6) (.tmp 68) rfl ?_)
              have HTH : Hid (w7.there (w.heap.size + 1 + 1) 0 4) := HR7.out.thereAt
              have HF : Hid (Blk (w7.setCells (w.heap.size + 1 + 1) 0 (#[.int .i64 d.me, .slice pi2 (insX d.xs q1).length ci2, .slice po d.os.length co, .int .i64 d.far] : Array Value).toList) (w.heap.size + 1 + 1) #[.int .i64 d.me, .slice pi2 (insX d.xs q1).length ci2, .slice po d.os.length co, .int .i64 d.far] 29 ∧ Below w.heap.size w (w7.setCells (w.heap.size + 1 + 1) 0 (#[.int .i64 d.me, .slice pi2 (insX d.xs q1).length ci2, .slice po d.os.length co, .int .i64 d.far] : Array Value).toList) ∧ Chg (w.heap.size + 1 + 1) w7 (w7.setCells (w.heap.size + 1 + 1) 0 (#[.int .i64 d.me, .slice pi2 (insX d.xs q1).length ci2, .slice po d.os.length co, .int .i64 d.far] : Array Value).toList)) := ⟨blk_put_all HR7.out _ rfl, below_put (by omega) _ _ _ _ HB7.out, chg_putL _ _ _ _ _ (Chg.refl _ w7)⟩
              refine wpList_store_mid rfl 29 (.tmp 6) (.tmp 68) rfl (w.heap.size + 1 + 1) 0 #[.int .i64 d.me, .slice pi2 (insX d.xs q1).length ci2, .slice po d.os.length co, .int .i64 d.far] rfl rfl HTH.out (infoD4 rfl) (all_oneCell_toArray (by intro u hu; simp at hu; rcases hu with rfl | rfl | rfl | rfl <;> rfl)) ?_
              generalize World.setCells w7 _ _ _ = w8 at *
              clear HTH
              go_wp2_with fail
              have hf := HF.out.1
              refine bodyPost_ret (v := .tuple #[.agg #[.int .i64 d.me, .slice pi2 (insX d.xs q1).length ci2, .slice po d.os.length co, .int .i64 d.far], vs, .int .i64 0]) (by simp [results, Try.results26, go_sem, hf.cell 0, hf.cell 1, hf.cell 2, hf.cell 3]) rfl ⟨HF.out.2.1, .inr ⟨rfl, pi2, ci2, vs, rfl, ?_, ?_, ?_, ?_⟩⟩
              · exact ⟨hdr.items.keepP hat7 (KeepP.of_chg HF.out.2.2 (fun hb => by have h2 := HZ7.out; have h3 := HW0.out; rcases hb with hb | hb; (have h4 := h3 _ hb; omega); ((try simp at hb); omega))), HH.out.orders.kept HF.out.2.1, hdr.sx, hdr.so, hdr.nx, hdr.no⟩
              · exact hat7.imp (fun b hb => hb.imp id (fun h => by have h2 := HZ7.out; (try simp at h); omega))
              · intro h; cases h
              · exact ⟨(hown.1.stay (fun b hb => HF.out.2.2.2 b (hown.1.lt b hb) (by have h1 := hown.1.block_ge b hb; have h2 := HZ7.out; simp at h1; omega))).less (by have h2 := HZ7.out; simp; omega), hown.2⟩
            · have he := Lib.hid he1
              have heb : (e1 == 0) = false := by simpa using he1
              have hebn : (e1 != 0) = true := by simpa using he1
              clear he1
              clear heb hebn
              have a0 : w6.cell? ⟨w.heap.size, 0, none⟩ = some (.int .i64 d.me) := HD6.out.cell 0
              have a1 : w6.cell? ⟨w.heap.size, 1, none⟩ = some (.slice pi d.xs.length ci) := HD6.out.cell 1
              have a2 : w6.cell? ⟨w.heap.size, 2, none⟩ = some (.slice po d.os.length co) := HD6.out.cell 2
              have a3 : w6.cell? ⟨w.heap.size, 3, none⟩ = some (.int .i64 d.far) := HD6.out.cell 3
              have x0 : w6.cell? ⟨gx, 0, none⟩ = some (.int .i64 q1.s) := HQ6.out.cell 0
              have x1 : w6.cell? ⟨gx, 1, none⟩ = some (.int .i64 q1.n) := HQ6.out.cell 1
              have x2 : w6.cell? ⟨gx, 2, none⟩ = some (.int .i64 q1.b) := HQ6.out.cell 2
              have x3 : w6.cell? ⟨gx, 3, none⟩ = some (.int .i64 q1.c) := HQ6.out.cell 3
              have x4 : w6.cell? ⟨gx, 4, none⟩ = some (.int .i64 q1.a) := HQ6.out.cell 4
              have x5 : w6.cell? ⟨gx, 5, none⟩ = some (.int .i64 q1.r) := HQ6.out.cell 5
              have x6 : w6.cell? ⟨gx, 6, none⟩ = some (.int .i64 q1.t) := HQ6.out.cell 6
              have x7 : w6.cell? ⟨gx, 7, none⟩ = some (.int .i64 q1.y) := HQ6.out.cell 7
              have HBH := Lib.hid (behind_err (w6.alloc (.cells #[.int .i64 8] 3)) d pi po ci co q1 e1 (.slice (some ⟨w6.heap.size, 0, none⟩) 1 1) (by first | exact he.out | exact he1.out))
              unfold deskV Itm.v at HBH
              go_wp2_with fail
              clear a0 a1 a2 a3 x0 x1 x2 x3 x4 x5 x6 x7
              refine HBH.out.mono ?_
              rintro y w7 ⟨rfl, hb7⟩
              have hb67 : Below w6.heap.size w6 w7 := (oneB w6 _).trans (hb7.mono (by simp))
              have HR7 := Lib.hid (HR6.out.below hb67 HR6.out.lt)
              have HB7 := Lib.hid (HB6.out.trans (hb67.mono HB6.out.size))
              have HZ7 : Hid (w.heap.size + 1 + 1 < w6.heap.size ∧ w.heap.size ≤ w6.heap.size) := ⟨HR6.out.lt, HB6.out.size⟩
              go_wp2_with (with_reducible refine stop_storeT 29 (.tmp 6) (.tmp 68) rfl ?_)
              have HTH : Hid (w7.there (w.heap.size + 1 + 1) 0 4) := HR7.out.thereAt
              have HF : Hid (Blk (w7.setCells (w.heap.size + 1 + 1) 0 (#[.int .i64 d.me, .slice pi d.xs.length ci, .slice po d.os.length co, .int .i64 d.far] : Array Value).toList) (w.heap.size + 1 + 1) #[.int .i64 d.me, .slice pi d.xs.length ci, .slice po d.os.length co, .int .i64 d.far] 29 ∧ Below w.heap.size w (w7.setCells (w.heap.size + 1 + 1) 0 (#[.int .i64 d.me, .slice pi d.xs.length ci, .slice po d.os.length co, .int .i64 d.far] : Array Value).toList) ∧ Chg (w.heap.size + 1 + 1) w7 (w7.setCells (w.heap.size + 1 + 1) 0 (#[.int .i64 d.me, .slice pi d.xs.length ci, .slice po d.os.length co, .int .i64 d.far] : Array Value).toList)) := ⟨blk_put_all HR7.out _ rfl, below_put (by omega) _ _ _ _ HB7.out, chg_putL _ _ _ _ _ (Chg.refl _ w7)⟩
              refine wpList_store_mid rfl 29 (.tmp 6) (.tmp 68) rfl (w.heap.size + 1 + 1) 0 #[.int .i64 d.me, .slice pi d.xs.length ci, .slice po d.os.length co, .int .i64 d.far] rfl rfl HTH.out (infoD4 rfl) (all_oneCell_toArray (by intro u hu; simp at hu; rcases hu with rfl | rfl | rfl | rfl <;> rfl)) ?_
              generalize World.setCells w7 _ _ _ = w8 at *
              clear HTH
              go_wp2_with fail
              have hf := HF.out.1
              refine bodyPost_ret (v := .tuple #[.agg #[.int .i64 d.me, .slice pi d.xs.length ci, .slice po d.os.length co, .int .i64 d.far], .slice none 0 0, .int .i64 e1]) (by simp [results, Try.results26, go_sem, hf.cell 0, hf.cell 1, hf.cell 2, hf.cell 3]) rfl ⟨HF.out.2.1, .inl ⟨by first | exact he.out | exact he1.out, rfl⟩⟩
      · have h2' : (q.b != d.me) = true := by simpa using h2
        have HRP2 := HRQ.out
        rw [if_pos (.inr h2)] at HRP2
        have HRP := Lib.hid HRP2
        clear h1 h2 HRQ HRP2
        have a0 : w6.cell? ⟨w.heap.size, 0, none⟩ = some (.int .i64 d.me) := HD6.out.cell 0
        have x0 : w6.cell? ⟨gx, 0, none⟩ = some (.int .i64 q.s) := HQ6.out.cell 0
        have x2 : w6.cell? ⟨gx, 2, none⟩ = some (.int .i64 q.b) := HQ6.out.cell 2
        go_upto_region 5 with fail
        clear a0 x0 x2
        clear h1' h2'
        have a0 : w6.cell? ⟨w.heap.size, 0, none⟩ = some (.int .i64 d.me) := HD6.out.cell 0
        have a1 : w6.cell? ⟨w.heap.size, 1, none⟩ = some (.slice pi d.xs.length ci) := HD6.out.cell 1
        have a2 : w6.cell? ⟨w.heap.size, 2, none⟩ = some (.slice po d.os.length co) := HD6.out.cell 2
        have a3 : w6.cell? ⟨w.heap.size, 3, none⟩ = some (.int .i64 d.far) := HD6.out.cell 3
        have HR8 := Lib.hid HR6.out
        have HB8 := Lib.hid HB6.out
        go_wp2_with (with_reducible refine stop_storeT 29 (.tmp 6) (.tmp 35) rfl ?_)
        clear a0 a1 a2 a3
        have HTH : Hid (w6.there (w.heap.size + 1 + 1) 0 4) := HR8.out.thereAt
        have HF : Hid (Blk (w6.setCells (w.heap.size + 1 + 1) 0 (#[.int .i64 d.me, .slice pi d.xs.length ci, .slice po d.os.length co, .int .i64 d.far] : Array Value).toList) (w.heap.size + 1 + 1) #[.int .i64 d.me, .slice pi d.xs.length ci, .slice po d.os.length co, .int .i64 d.far] 29 ∧ Below w.heap.size w (w6.setCells (w.heap.size + 1 + 1) 0 (#[.int .i64 d.me, .slice pi d.xs.length ci, .slice po d.os.length co, .int .i64 d.far] : Array Value).toList)) := ⟨blk_put_all HR8.out _ rfl, below_put (by omega) _ _ _ _ HB8.out⟩
        refine wpList_store_mid rfl 29 (.tmp 6) (.tmp 35) rfl (w.heap.size + 1 + 1) 0 #[.int .i64 d.me, .slice pi d.xs.length ci, .slice po d.os.length co, .int .i64 d.far] rfl rfl HTH.out (infoD4 rfl) (all_oneCell_toArray (by intro u hu; simp at hu; rcases hu with rfl | rfl | rfl | rfl <;> rfl)) ?_
        generalize World.setCells w6 _ _ _ = w8 at *
        clear HTH
        go_wp2_with fail
        have hf := HF.out.1
        have hrr := HRP.out
        subst hrr
        refine bodyPost_ret (v := .tuple #[.agg #[.int .i64 d.me, .slice pi d.xs.length ci, .slice po d.os.length co, .int .i64 d.far], .slice none 0 0, .int .i64 140]) (by simp [results, Try.results26, go_sem, hf.cell 0, hf.cell 1, hf.cell 2, hf.cell 3]) rfl ⟨HF.out.2, .inl ⟨by decide, rfl⟩⟩
    · have h1' : (q.s != fro) = true := by simpa using h1
      have HRP2 := HRQ.out
      rw [if_pos (.inl h1)] at HRP2
      have HRP := Lib.hid HRP2
      clear h1 HRQ HRP2
      have x0 : w6.cell? ⟨gx, 0, none⟩ = some (.int .i64 q.s) := HQ6.out.cell 0
      go_upto_region 5 with fail
      clear x0
      clear h1'
      have a0 : w6.cell? ⟨w.heap.size, 0, none⟩ = some (.int .i64 d.me) := HD6.out.cell 0
      have a1 : w6.cell? ⟨w.heap.size, 1, none⟩ = some (.slice pi d.xs.length ci) := HD6.out.cell 1
      have a2 : w6.cell? ⟨w.heap.size, 2, none⟩ = some (.slice po d.os.length co) := HD6.out.cell 2
      have a3 : w6.cell? ⟨w.heap.size, 3, none⟩ = some (.int .i64 d.far) := HD6.out.cell 3
      have HR8 := Lib.hid HR6.out
      have HB8 := Lib.hid HB6.out
      go_wp2_with (with_reducible refine stop_storeT 29 (.tmp 6) (.tmp 35) rfl ?_)
      clear a0 a1 a2 a3
      have HTH : Hid (w6.there (w.heap.size + 1 + 1) 0 4) := HR8.out.thereAt
      have HF : Hid (Blk (w6.setCells (w.heap.size + 1 + 1) 0 (#[.int .i64 d.me, .slice pi d.xs.length ci, .slice po d.os.length co, .int .i64 d.far] : Array Value).toList) (w.heap.size + 1 + 1) #[.int .i64 d.me, .slice pi d.xs.length ci, .slice po d.os.length co, .int .i64 d.far] 29 ∧ Below w.heap.size w (w6.setCells (w.heap.size + 1 + 1) 0 (#[.int .i64 d.me, .slice pi d.xs.length ci, .slice po d.os.length co, .int .i64 d.far] : Array Value).toList)) := ⟨blk_put_all HR8.out _ rfl, below_put (by omega) _ _ _ _ HB8.out⟩
      refine wpList_store_mid rfl 29 (.tmp 6) (.tmp 35) rfl (w.heap.size + 1 + 1) 0 #[.int .i64 d.me, .slice pi d.xs.length ci, .slice po d.os.length co, .int .i64 d.far] rfl rfl HTH.out (infoD4 rfl) (all_oneCell_toArray (by intro u hu; simp at hu; rcases hu with rfl | rfl | rfl | rfl <;> rfl)) ?_
      generalize World.setCells w6 _ _ _ = w8 at *
      clear HTH
      go_wp2_with fail
      have hf := HF.out.1
      have hrr := HRP.out
      subst hrr
      refine bodyPost_ret (v := .tuple #[.agg #[.int .i64 d.me, .slice pi d.xs.length ci, .slice po d.os.length co, .int .i64 d.far], .slice none 0 0, .int .i64 140]) (by simp [results, Try.results26, go_sem, hf.cell 0, hf.cell 1, hf.cell 2, hf.cell 3]) rfl ⟨HF.out.2, .inl ⟨by decide, rfl⟩⟩
  · have he := Lib.hid he0
    have heb : (e == 0) = false := by simpa using he0
    have hebn : (e != 0) = true := by simpa using he0
    clear he0
    rw [if_neg he.out] at HG
    rw [if_pos he.out] at hr
    have HRP := Lib.hid hr
    clear hr
    simp only [itm0] at HG
    unfold Itm.v at HG
    unfold deskV Msg.v
    go_enter Try.func26, Try.ntmps26
    go_upto_region 1 with fail
    generalize (((w.alloc (.cells #[.int .i64 d.me, .slice pi d.xs.length ci, .slice po d.os.length co, .int .i64 d.far] 29)).alloc (.cells #[.int .i64 m.k, .int .i64 m.s, .int .i64 m.n, .int .i64 m.b, .int .i64 m.c, .int .i64 m.r, .int .i64 m.y, .int .i64 m.a, .bool m.t, vl, vn] 40)).alloc (.cells #[.int .i64 0, .slice none 0 0, .slice none 0 0, .int .i64 0] 29)) = W at *
    have c0 : W.cell? ⟨w.heap.size + 1, 0, none⟩ = some (.int .i64 m.k) := HT.out.b1.cell 0
    have c1 : W.cell? ⟨w.heap.size + 1, 1, none⟩ = some (.int .i64 m.s) := HT.out.b1.cell 1
    have c2 : W.cell? ⟨w.heap.size + 1, 2, none⟩ = some (.int .i64 m.n) := HT.out.b1.cell 2
    have c3 : W.cell? ⟨w.heap.size + 1, 3, none⟩ = some (.int .i64 m.b) := HT.out.b1.cell 3
    have c4 : W.cell? ⟨w.heap.size + 1, 4, none⟩ = some (.int .i64 m.c) := HT.out.b1.cell 4
    have c5 : W.cell? ⟨w.heap.size + 1, 5, none⟩ = some (.int .i64 m.r) := HT.out.b1.cell 5
    have c6 : W.cell? ⟨w.heap.size + 1, 6, none⟩ = some (.int .i64 m.y) := HT.out.b1.cell 6
    have c7 : W.cell? ⟨w.heap.size + 1, 7, none⟩ = some (.int .i64 m.a) := HT.out.b1.cell 7
    have c8 : W.cell? ⟨w.heap.size + 1, 8, none⟩ = some (.bool m.t) := HT.out.b1.cell 8
    have c9 : W.cell? ⟨w.heap.size + 1, 9, none⟩ = some (vl) := HT.out.b1.cell 9
    have c10 : W.cell? ⟨w.heap.size + 1, 10, none⟩ = some (vn) := HT.out.b1.cell 10
    go_wp2_with fail
    clear c0 c1 c2 c3 c4 c5 c6 c7 c8 c9 c10
    refine HG.out.mono ?_
    rintro y w1 ⟨rfl, hb⟩
    have HB7 := Lib.hid ((HT.out.low.trans (hb.mono HT.out.low.size)).alloc (HT.out.low.trans (hb.mono HT.out.low.size)).size (.cells #[.int .i64 0, .int .i64 0, .int .i64 0, .int .i64 0, .int .i64 0, .int .i64 0, .int .i64 0, .int .i64 0] 64))
    have HD7 : Hid (Blk (w1.alloc (.cells #[.int .i64 0, .int .i64 0, .int .i64 0, .int .i64 0, .int .i64 0, .int .i64 0, .int .i64 0, .int .i64 0] 64)) w.heap.size #[.int .i64 d.me, .slice pi d.xs.length ci, .slice po d.os.length co, .int .i64 d.far] 29) := (HT.out.b0.below hb HT.out.b0.lt).alloc _
    have HM7 : Hid (Blk (w1.alloc (.cells #[.int .i64 0, .int .i64 0, .int .i64 0, .int .i64 0, .int .i64 0, .int .i64 0, .int .i64 0, .int .i64 0] 64)) (w.heap.size + 1) #[.int .i64 m.k, .int .i64 m.s, .int .i64 m.n, .int .i64 m.b, .int .i64 m.c, .int .i64 m.r, .int .i64 m.y, .int .i64 m.a, .bool m.t, vl, vn] 40) := (HT.out.b1.below hb HT.out.b1.lt).alloc _
    have HR7 : Hid (Blk (w1.alloc (.cells #[.int .i64 0, .int .i64 0, .int .i64 0, .int .i64 0, .int .i64 0, .int .i64 0, .int .i64 0, .int .i64 0] 64)) (w.heap.size + 1 + 1) #[.int .i64 0, .slice none 0 0, .slice none 0 0, .int .i64 0] 29) := (HT.out.b2.below hb HT.out.b2.lt).alloc _
    have HQ6 := Lib.hid (Blk.new w1 #[.int .i64 0, .int .i64 0, .int .i64 0, .int .i64 0, .int .i64 0, .int .i64 0, .int .i64 0, .int .i64 0] 64)
    have HGX7 : Hid (w.heap.size + 1 + 1 < w1.heap.size) := by show _ < _; have h1 := HT.out.b2.lt; have h2 := hb.size; omega
    clear hb HG HT
    go_upto_region 2 with fail
    generalize w1.alloc (.cells #[.int .i64 0, .int .i64 0, .int .i64 0, .int .i64 0, .int .i64 0, .int .i64 0, .int .i64 0, .int .i64 0] 64) = w6 at *
    generalize w1.heap.size = gx at *
    have HB6 := HB7
    have HD6 := HD7
    have HM6 := HM7
    have HR6 := HR7
    have HGX := HGX7
    clear HB7 HD7 HM7 HR7 HGX7
    go_upto_region 3 with fail
    clear heb hebn
    have a0 : w6.cell? ⟨w.heap.size, 0, none⟩ = some (.int .i64 d.me) := HD6.out.cell 0
    have a1 : w6.cell? ⟨w.heap.size, 1, none⟩ = some (.slice pi d.xs.length ci) := HD6.out.cell 1
    have a2 : w6.cell? ⟨w.heap.size, 2, none⟩ = some (.slice po d.os.length co) := HD6.out.cell 2
    have a3 : w6.cell? ⟨w.heap.size, 3, none⟩ = some (.int .i64 d.far) := HD6.out.cell 3
    have HR8 := Lib.hid HR6.out
    have HB8 := Lib.hid HB6.out
    go_wp2_with (with_reducible refine stop_storeT 29 (.tmp 6) (.tmp 19) rfl ?_)
    clear a0 a1 a2 a3
    have HTH : Hid (w6.there (w.heap.size + 1 + 1) 0 4) := HR8.out.thereAt
    have HF : Hid (Blk (w6.setCells (w.heap.size + 1 + 1) 0 (#[.int .i64 d.me, .slice pi d.xs.length ci, .slice po d.os.length co, .int .i64 d.far] : Array Value).toList) (w.heap.size + 1 + 1) #[.int .i64 d.me, .slice pi d.xs.length ci, .slice po d.os.length co, .int .i64 d.far] 29 ∧ Below w.heap.size w (w6.setCells (w.heap.size + 1 + 1) 0 (#[.int .i64 d.me, .slice pi d.xs.length ci, .slice po d.os.length co, .int .i64 d.far] : Array Value).toList)) := ⟨blk_put_all HR8.out _ rfl, below_put (by omega) _ _ _ _ HB8.out⟩
    refine wpList_store_mid rfl 29 (.tmp 6) (.tmp 19) rfl (w.heap.size + 1 + 1) 0 #[.int .i64 d.me, .slice pi d.xs.length ci, .slice po d.os.length co, .int .i64 d.far] rfl rfl HTH.out (infoD4 rfl) (all_oneCell_toArray (by intro u hu; simp at hu; rcases hu with rfl | rfl | rfl | rfl <;> rfl)) ?_
    generalize World.setCells w6 _ _ _ = w8 at *
    clear HTH
    go_wp2_with fail
    have hf := HF.out.1
    have hrr := HRP.out
    subst hrr
    refine bodyPost_ret (v := .tuple #[.agg #[.int .i64 d.me, .slice pi d.xs.length ci, .slice po d.os.length co, .int .i64 d.far], .slice none 0 0, .int .i64 e]) (by simp [results, Try.results26, go_sem, hf.cell 0, hf.cell 1, hf.cell 2, hf.cell 3]) rfl ⟨HF.out.2, .inl ⟨he.out, rfl⟩⟩
end Go.Proofs.Ytbpfbebebppleaa
