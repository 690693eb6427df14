/- link.New, Next, Hear by contract. -/
import Derived.Test.YtpjekejkhncjpaaLinkFns2
import Derived.Deep.RegionHeld3
namespace Go.Proofs.Ytpjekejkhncjpaa
open Go.RowKit
set_option linter.unusedSimpArgs false
theorem made_get (z : Array Value) (k n i t : Nat) (hz : z.size = k) (hi : i < n) (ht : t < k) : (madeCells z (n * k))[i * k + t]? = z[t]? := by
  have hlt : i * k + t < n * k := mul_lt_of hi ht
  have hm : (i * k + t) % k = t := by rw [Nat.mul_comm, Nat.mul_add_mod]; exact Nat.mod_eq_of_lt ht
  unfold madeCells
  simp only [Array.getElem?_map, Array.getElem?_range, if_pos hlt, Option.map_some, hz, hm]
  simp [hz, ht]
def okNew (me n : Int) : Prop := 1 ≤ n ∧ n ≤ 9 ∧ 0 ≤ me ∧ me < n
def peers0 (n : Nat) : List Pe := List.replicate n ([], 0)
set_option maxHeartbeats 4000000 in
set_option maxRecDepth 100000 in
theorem new_ok (P : Nat → Prop) (me : Int) (n : Nat) (w : World) (h : okNew me n) (hP : ∀ b, w.heap.size ≤ b → P b) :
    Calls Try.prog 6 #[.int .i64 me, .int .i64 (n : Nat)] w fun e w' => ∃ v, e = .returned (.tuple #[v, .int .i64 0]) ∧ Lnk P w' v me (peers0 n) ∧ Below w.heap.size w w' := by
  obtain ⟨h1, h2, h3, h4⟩ := h
  have e1 : ¬ (n : Int) < 1 := by omega
  have e2 : ¬ (9 : Int) < (n : Int) := by omega
  have e3 : ¬ me < 0 := by omega
  have e4 : ¬ (n : Int) ≤ me := by omega
  have HNB : Hid (n ≤ 9) := by show n ≤ 9; omega
  obtain ⟨i0, hu, hi, hz, hs, hby⟩ := elt_cloneP_any
  have hmk := run_make (P := Try.prog) (w.alloc (.cells #[.int .i64 0, .slice none 0 0] 27)) 25 46 i0 _ hu hi hz .i64 .i64 (n : Int) (n : Int) (by omega) (Int.le_refl _) (by rw [hby]; omega) (by omega)
  rw [hs] at hmk
  simp only [Int.toNat_natCast, Value.cells] at hmk
  go_enter Try.func6, Try.ntmps6
  go_wp2_with fail
  have hk := (Blk.new w #[.int .i64 me, .slice (some ⟨w.heap.size + 1, 0, none⟩) n n] 27).alloc (.cells (madeCells #[.slice none 0 0, .int .i64 0] (n * encP.k)) 46)
  have hm := Blk.new' (w.alloc (.cells #[.int .i64 me, .slice (some ⟨w.heap.size + 1, 0, none⟩) n n] 27)) (madeCells #[.slice none 0 0, .int .i64 0] (n * encP.k)) 46 (b := w.heap.size + 1) (by simp)
  refine bodyPost_ret (v := .tuple #[.agg #[.int .i64 me, .slice (some ⟨w.heap.size + 1, 0, none⟩) n n], .int .i64 0]) (by simp [results, Try.results6, go_sem, hk.cell 0, hk.cell 1]) rfl ?_
  have hlen : (peers0 n).length = n := by simp [peers0]
  refine ⟨_, rfl, ⟨some ⟨w.heap.size + 1, 0, none⟩, n, by rw [hlen], ?_⟩, (oneB w _).trans ((oneB _ _).mono (by simp))⟩
  rw [hlen]
  refine ⟨List.replicate n ⟨none, 0, 0, 0⟩, ⟨_, _, by rw [List.length_replicate], by simp, .inr ⟨w.heap.size + 1, 0, rfl, hm.lt, fun i hi t ht => ?_⟩⟩, (fun b o n c e _ => by cases e; exact hP _ (by omega)), by simp [peers0], fun i hi hi' => ?_⟩
  · rw [List.length_replicate] at hi
    rw [List.getElem_replicate, Nat.zero_add]
    refine (hm.cell _).trans ((made_get _ 2 n i t rfl hi ht).trans ?_)
    match t, ht with
    | 0, _ => rfl
    | 1, _ => rfl
  · simp only [peers0, List.getElem_replicate]
    exact ⟨rfl, rfl, MRow.nil_ _ _⟩
theorem new_no (me n : Int) (w : World) (h : ¬ okNew me n) :
    Calls Try.prog 6 #[.int .i64 me, .int .i64 n] w fun e w' => e = .returned (.tuple #[.agg #[.int .i64 0, .slice none 0 0], .int .i64 1]) ∧ Below w.heap.size w w' := by
  have hd : n < 1 ∨ (¬ n < 1 ∧ 9 < n) ∨ (¬ n < 1 ∧ ¬ 9 < n ∧ me < 0) ∨ (¬ n < 1 ∧ ¬ 9 < n ∧ ¬ me < 0 ∧ n ≤ me) := by unfold okNew at h; omega
  clear h
  rcases hd with h1 | ⟨h1, h2⟩ | ⟨h1, h2, h3⟩ | ⟨h1, h2, h3, h4⟩
  all_goals
    go_enter Try.func6, Try.ntmps6
    go_wp2_with fail
    have hf := Blk.new w #[.int .i64 0, .slice none 0 0] 27
    refine bodyPost_ret (v := .tuple #[.agg #[.int .i64 0, .slice none 0 0], .int .i64 1]) (by simp [results, Try.results6, go_sem, hf.cell 0, hf.cell 1]) rfl ⟨rfl, oneB w _⟩
def nextB (q : Pe) (ok : Bool) (i : Int) : Bool := ok && (decide (1 ≤ i) && (i - 1 == q.2))
def oldB (q : Pe) (ok : Bool) (i : Int) : Bool := ok && (decide (1 ≤ i) && decide (i ≤ q.2))
set_option maxHeartbeats 4000000 in
set_option maxRecDepth 100000 in
theorem next_any (P : Nat → Prop) (me i k : Int) (p : Option Addr) (n c : Nat) (qs : List Pe) (w : World) (hn : n = qs.length) (hr : PeRow P w (.slice p n c) qs) (hk : -9223372036854775808 ≤ k ∧ k ≤ 9223372036854775807) :
    Calls Try.prog 9 #[.agg #[.int .i64 me, .slice p n c], .int .i64 i, .int .i64 k] w fun e w' => e = .returned (.tuple #[.bool (nextB (peAt me qs i) (okP me qs.length i) k), .bool (oldB (peAt me qs i) (okP me qs.length i) k)]) ∧ Below w.heap.size w w' := by
  have HB0 := Lib.hid (oneB w (.cells #[.int .i64 me, .slice p n c] 27))
  have HOT := Lib.hid (other_any P me i p n c qs (w.alloc (.cells #[.int .i64 me, .slice p n c] 27)) hn (hr.kept HB0.out))
  generalize peAt me qs i = q at *
  generalize okP me qs.length i = ok at *
  have HW : Hid (1 ≤ k → IntKind.i64.wrap (k - 1) = k - 1) := fun h => IntWalk.i64_in _ (by omega)
  clear hk
  clear hn hr
  by_cases h1 : 1 ≤ k
  · have hw : IntKind.i64.wrap (k - 1) = k - 1 := HW.out h1
    cases ok with
    | true =>
      go_enter Try.func9, Try.ntmps9
      go_wp2_with fail
      refine HOT.out.mono ?_
      rintro y w1 ⟨x, rfl, hq, hb⟩
      have HQ := Lib.hid hq.1
      have HB := Lib.hid (HB0.out.trans (hb.mono HB0.out.size))
      clear hq hb HOT
      have hS1 : (w1.alloc (.cells #[.slice x.p x.n x.c, .int .i64 x.h] 46)).drew.cell? ⟨w1.heap.size, 1, none⟩ = some (.int .i64 x.h) := (Blk.new w1 #[.slice x.p x.n x.c, .int .i64 x.h] 46).drew.cell 1
      go_wp2_with fail
      refine wp_region_held_drew (S := fun w' => w'.cell? ⟨w1.heap.size, 1, none⟩ = some (.int .i64 x.h)) (by kernel_rfl) hS1 (fun hS0 => ?_)
      refine wpAnyH_take (i := 0) (v := ?_) rfl (by kernel_rfl) (by kernel_rfl) (by kernel_rfl) (fun _ _ _ h => h) (Or.inl ⟨by kernel_rfl, ?_⟩) (by first | assumption | trivial) ?_
      rotate_left
      · intro w hSw
        try dsimp only at hSw
        first | (go_simp; done) | (go_simp; with_reducible rfl)
      try simp only [Act.put, List.getElem_toArray, List.getElem_cons_succ, List.getElem_cons_zero, List.setIfInBounds_toArray, List.set_cons_zero, List.set_cons_succ]
      refine wpAnyH_take (i := 1) (v := ?_) rfl (by kernel_rfl) (by kernel_rfl) (by kernel_rfl) (fun _ _ _ h => h) (Or.inl ⟨by kernel_rfl, ?_⟩) (by first | assumption | trivial) ?_
      rotate_left
      · intro w hSw
        try dsimp only at hSw
        first | (go_simp; done) | (go_simp; with_reducible rfl)
      try simp only [Act.put, List.getElem_toArray, List.getElem_cons_succ, List.getElem_cons_zero, List.setIfInBounds_toArray, List.set_cons_zero, List.set_cons_succ]
      refine wpAnyH_take (i := 2) (v := ?_) rfl (by kernel_rfl) (by kernel_rfl) (by kernel_rfl) (fun _ _ _ h => h) (Or.inl ⟨by kernel_rfl, ?_⟩) (by first | assumption | trivial) ?_
      rotate_left
      · intro w hSw
        try dsimp only at hSw
        first | (go_simp; done) | (go_simp; with_reducible rfl)
      try simp only [Act.put, List.getElem_toArray, List.getElem_cons_succ, List.getElem_cons_zero, List.setIfInBounds_toArray, List.set_cons_zero, List.set_cons_succ]
      refine wpAnyH_take (i := 3) (v := ?_) rfl (by kernel_rfl) (by kernel_rfl) (by kernel_rfl) (fun _ _ _ h => h) (Or.inl ⟨by kernel_rfl, ?_⟩) (by first | assumption | trivial) ?_
      rotate_left
      · intro w hSw
        try dsimp only at hSw
        first | (go_simp; done) | (go_simp; with_reducible rfl)
      try simp only [Act.put, List.getElem_toArray, List.getElem_cons_succ, List.getElem_cons_zero, List.setIfInBounds_toArray, List.set_cons_zero, List.set_cons_succ]
      refine wpAnyH_take (i := 4) (v := ?_) rfl (by kernel_rfl) (by kernel_rfl) (by kernel_rfl) (fun _ _ _ h => h) (Or.inl ⟨by kernel_rfl, ?_⟩) (by first | assumption | trivial) ?_
      rotate_left
      · intro w hSw
        try dsimp only at hSw
        first | (go_simp; done) | (go_simp; with_reducible rfl)
      try simp only [Act.put, List.getElem_toArray, List.getElem_cons_succ, List.getElem_cons_zero, List.setIfInBounds_toArray, List.set_cons_zero, List.set_cons_succ]
      refine wpAnyH_take (i := 5) (v := ?_) rfl (by kernel_rfl) (by kernel_rfl) (by kernel_rfl) (fun _ _ _ h => h) (Or.inl ⟨by kernel_rfl, ?_⟩) (by first | assumption | trivial) ?_
      rotate_left
      · intro w hSw
        try dsimp only at hSw
        first | (go_simp; done) | (go_simp; with_reducible rfl)
      try simp only [Act.put, List.getElem_toArray, List.getElem_cons_succ, List.getElem_cons_zero, List.setIfInBounds_toArray, List.set_cons_zero, List.set_cons_succ]
      refine wpAnyH_take (i := 6) (v := ?_) rfl (by kernel_rfl) (by kernel_rfl) (by kernel_rfl) (fun _ _ _ h => h) (Or.inl ⟨by kernel_rfl, ?_⟩) (by first | assumption | trivial) ?_
      rotate_left
      · intro w hSw
        try dsimp only at hSw
        first | (go_simp; done) | (go_simp; with_reducible rfl)
      try simp only [Act.put, List.getElem_toArray, List.getElem_cons_succ, List.getElem_cons_zero, List.setIfInBounds_toArray, List.set_cons_zero, List.set_cons_succ]
      refine wpAnyH_take (i := 7) (v := ?_) rfl (by kernel_rfl) (by kernel_rfl) (by kernel_rfl) (fun _ _ _ h => h) (Or.inl ⟨by kernel_rfl, ?_⟩) (by first | assumption | trivial) ?_
      rotate_left
      · intro w hSw
        try dsimp only at hSw
        first | (go_simp; done) | (go_simp; with_reducible rfl)
      try simp only [Act.put, List.getElem_toArray, List.getElem_cons_succ, List.getElem_cons_zero, List.setIfInBounds_toArray, List.set_cons_zero, List.set_cons_succ]
      refine wpAnyH_take (i := 8) (v := ?_) rfl (by kernel_rfl) (by kernel_rfl) (by kernel_rfl) (fun _ _ _ h => h) (Or.inl ⟨by kernel_rfl, ?_⟩) (by first | assumption | trivial) ?_
      rotate_left
      · intro w hSw
        try dsimp only at hSw
        first | (go_simp; done) | (go_simp; with_reducible rfl)
      try simp only [Act.put, List.getElem_toArray, List.getElem_cons_succ, List.getElem_cons_zero, List.setIfInBounds_toArray, List.set_cons_zero, List.set_cons_succ]
      refine wpAnyH_take (i := 9) (v := ?_) rfl (by kernel_rfl) (by kernel_rfl) (by kernel_rfl) (fun _ _ _ h => h) (Or.inl ⟨by kernel_rfl, ?_⟩) (by first | assumption | trivial) ?_
      rotate_left
      · intro w hSw
        try dsimp only at hSw
        first | (go_simp; done) | (go_simp; with_reducible rfl)
      try simp only [Act.put, List.getElem_toArray, List.getElem_cons_succ, List.getElem_cons_zero, List.setIfInBounds_toArray, List.set_cons_zero, List.set_cons_succ]
      refine wpAnyH_take (i := 10) (v := ?_) rfl (by kernel_rfl) (by kernel_rfl) (by kernel_rfl) (fun _ _ _ h => h) (Or.inl ⟨by kernel_rfl, ?_⟩) (by first | assumption | trivial) ?_
      rotate_left
      · intro w hSw
        try dsimp only at hSw
        first | (go_simp; done) | (go_simp; with_reducible rfl)
      try simp only [Act.put, List.getElem_toArray, List.getElem_cons_succ, List.getElem_cons_zero, List.setIfInBounds_toArray, List.set_cons_zero, List.set_cons_succ]
      refine wpAnyH_done (by kernel_rfl) ?_ _
      go_wp2_with fail
      refine bodyPost_ret (v := .tuple #[.bool (k - 1 == x.h), .bool (decide (k ≤ x.h))]) (by simp [results, Try.results9, go_sem]) rfl ⟨?_, (HB.out.alloc HB.out.size _).drew⟩
      rw [HQ.out]
      simp [nextB, oldB, h1]
    | false =>
      go_enter Try.func9, Try.ntmps9
      go_wp2_with fail
      refine HOT.out.mono ?_
      rintro y w1 ⟨x, rfl, _, hb⟩
      have HB := Lib.hid (HB0.out.trans (hb.mono HB0.out.size))
      clear hb HOT
      go_wp2_with fail
      refine bodyPost_ret (v := .tuple #[.bool false, .bool false]) (by simp [results, Try.results9, go_sem]) rfl ⟨?_, HB.out.alloc HB.out.size _⟩
      simp [nextB, oldB]
  · cases ok with
    | true =>
      go_enter Try.func9, Try.ntmps9
      go_wp2_with fail
      refine HOT.out.mono ?_
      rintro y w1 ⟨x, rfl, _, hb⟩
      have HB := Lib.hid (HB0.out.trans (hb.mono HB0.out.size))
      clear hb HOT
      go_wp2_with fail
      refine bodyPost_ret (v := .tuple #[.bool false, .bool false]) (by simp [results, Try.results9, go_sem]) rfl ⟨?_, HB.out.alloc HB.out.size _⟩
      simp [nextB, oldB]
      omega
    | false =>
      go_enter Try.func9, Try.ntmps9
      go_wp2_with fail
      refine HOT.out.mono ?_
      rintro y w1 ⟨x, rfl, _, hb⟩
      have HB := Lib.hid (HB0.out.trans (hb.mono HB0.out.size))
      clear hb HOT
      go_wp2_with fail
      refine bodyPost_ret (v := .tuple #[.bool false, .bool false]) (by simp [results, Try.results9, go_sem]) rfl ⟨?_, HB.out.alloc HB.out.size _⟩
      simp [nextB, oldB]
theorem hear_no (P : Nat → Prop) (me i : Int) (p : Option Addr) (n c : Nat) (qs : List Pe) (w : World) (hn : n = qs.length) (hr : PeRow P w (.slice p n c) qs) (hok : okP me qs.length i = false) :
    Calls Try.prog 10 #[.agg #[.int .i64 me, .slice p n c], .int .i64 i] w fun e w' => e = .returned (.tuple #[.agg #[.int .i64 0, .slice none 0 0], .int .i64 1]) ∧ Below w.heap.size w w' := by
  have HB0 := Lib.hid (((oneB w (.cells #[.int .i64 me, .slice p n c] 27))).alloc (by simp) (.cells #[.int .i64 0, .slice none 0 0] 27))
  have HR0 := Lib.hid (Blk.new' (w.alloc (.cells #[.int .i64 me, .slice p n c] 27)) #[.int .i64 0, .slice none 0 0] 27 (b := w.heap.size + 1) (by simp))
  have HOT := Lib.hid (other_any P me i p n c qs ((w.alloc (.cells #[.int .i64 me, .slice p n c] 27)).alloc (.cells #[.int .i64 0, .slice none 0 0] 27)) hn (hr.kept HB0.out))
  rw [hok] at HOT
  clear hn hr hok
  go_enter Try.func10, Try.ntmps10
  go_wp2_with fail
  generalize (w.alloc (.cells #[.int .i64 me, .slice p n c] 27)).alloc (.cells #[.int .i64 0, .slice none 0 0] 27) = W0 at *
  refine HOT.out.mono ?_
  rintro y w1 ⟨x, rfl, _, hb⟩
  have HB := Lib.hid (HB0.out.trans (hb.mono HB0.out.size))
  have hr1 := (HR0.out.below hb HR0.out.lt).alloc (.cells #[.slice x.p x.n x.c, .int .i64 x.h] 46)
  have HR1 := Lib.hid hr1
  have r0 : (w1.alloc (.cells #[.slice x.p x.n x.c, .int .i64 x.h] 46)).cell? ⟨w.heap.size + 1, 0, none⟩ = some (.int .i64 0) := hr1.cell 0
  have r1 : (w1.alloc (.cells #[.slice x.p x.n x.c, .int .i64 x.h] 46)).cell? ⟨w.heap.size + 1, 1, none⟩ = some (.slice none 0 0) := hr1.cell 1
  have rf0 := hr1.free 0
  have rf1 := hr1.free 1
  clear hb hr1 HOT
  go_wp2_with fail
  have hf := (HR1.out.set 0 (.int .i64 0)).set 1 (.slice none 0 0)
  have hc := ((Chg.refl (w.heap.size + 1) (w1.alloc (.cells #[.slice x.p x.n x.c, .int .i64 x.h] 46))).set 0 (.int .i64 0)).set 1 (.slice none 0 0)
  have hB1 := HB.out.alloc HB.out.size (.cells #[.slice x.p x.n x.c, .int .i64 x.h] 46)
  refine bodyPost_ret (v := .tuple #[.agg #[.int .i64 0, .slice none 0 0], .int .i64 1]) (by simp [results, Try.results10, go_sem, hf.cell 0, hf.cell 1]) rfl ⟨rfl, hB1.trans (hc.below (by omega) hB1.size)⟩
theorem hear_ok (P : Nat → Prop) (me : Int) (j : Nat) (p : Option Addr) (n c : Nat) (qs : List Pe) (w : World) (hn : n = qs.length) (hr : PeRow P w (.slice p n c) qs) (hok : okP me qs.length j = true) (hj : j < qs.length) (hb : qs.length ≤ 1000) (hh : -1000000000000 ≤ qs[j].2 ∧ qs[j].2 ≤ 1000000000000) (hP : ∀ b, w.heap.size ≤ b → P b) :
    Calls Try.prog 10 #[.agg #[.int .i64 me, .slice p n c], .int .i64 (j : Nat)] w fun e w' => ∃ v, e = .returned (.tuple #[v, .int .i64 0]) ∧ Lnk P w' v me (qs.set j (qs[j].1, qs[j].2 + 1)) ∧ Below w.heap.size w w' := by
  have HB0 := Lib.hid (((oneB w (.cells #[.int .i64 me, .slice p n c] 27))).alloc (by simp) (.cells #[.int .i64 0, .slice none 0 0] 27))
  have HK0 := Lib.hid ((Blk.new w #[.int .i64 me, .slice p n c] 27).alloc (.cells #[.int .i64 0, .slice none 0 0] 27))
  have HR0 := Lib.hid (Blk.new' (w.alloc (.cells #[.int .i64 me, .slice p n c] 27)) #[.int .i64 0, .slice none 0 0] 27 (b := w.heap.size + 1) (by simp))
  have HOT := Lib.hid (other_any (fun b => P b ∧ b ≠ w.heap.size + 1) me j p n c qs ((w.alloc (.cells #[.int .i64 me, .slice p n c] 27)).alloc (.cells #[.int .i64 0, .slice none 0 0] 27)) hn ((hr.mono (Q := fun b => P b ∧ b ≠ w.heap.size + 1) (fun b hb hp => ⟨hp, by omega⟩)).kept HB0.out))
  have hP2 : peAt me qs j = qs[j] := by unfold peAt; rw [if_pos hok]; simp [hj]
  rw [hok, hP2] at HOT
  generalize hq : qs[j] = q at *
  have HPR := Lib.hid (fun w' (h : Below w.heap.size w w') => (hr.mono (Q := fun b => P b ∧ b ≠ w.heap.size + 1) (fun b hb hp => ⟨hp, by omega⟩)).kept h)
  have HPP := Lib.hid hP
  clear hP
  have HN := Lib.hid hn
  have HJ := Lib.hid hj
  have HB9 := Lib.hid hb
  have hw : wrap64 (q.2 + 1) = q.2 + 1 := by unfold wrap64; omega
  clear hn hr hok hj hb hP2 hq hh
  go_enter Try.func10, Try.ntmps10
  go_wp2_with fail
  generalize (w.alloc (.cells #[.int .i64 me, .slice p n c] 27)).alloc (.cells #[.int .i64 0, .slice none 0 0] 27) = W0 at *
  refine HOT.out.mono ?_
  rintro y w1 ⟨x, rfl, hx, hb⟩
  have HX := Lib.hid hx
  have hxh := hx.1
  rw [hxh]
  have HB := Lib.hid (HB0.out.trans (hb.mono HB0.out.size))
  have HK1 := Lib.hid (HK0.out.below hb HK0.out.lt)
  have HR1 := Lib.hid (HR0.out.below hb HR0.out.lt)
  have HGN : Hid (w.heap.size + 1 < w1.heap.size) := HR1.out.lt
  clear hb hx hxh HOT HK0 HR0 HB0
  have hk2 := HK1.out.alloc (.cells #[.slice x.p x.n x.c, .int .i64 (q.2 + 1)] 46)
  have c0 : (w1.alloc (.cells #[.slice x.p x.n x.c, .int .i64 (q.2 + 1)] 46)).cell? ⟨w.heap.size, 0, none⟩ = some (.int .i64 me) := hk2.cell 0
  have c1 : (w1.alloc (.cells #[.slice x.p x.n x.c, .int .i64 (q.2 + 1)] 46)).cell? ⟨w.heap.size, 1, none⟩ = some (.slice p n c) := hk2.cell 1
  clear hk2
  have HBW := Lib.hid (HB.out.alloc HB.out.size (.cells #[.slice x.p x.n x.c, .int .i64 (q.2 + 1)] 46))
  have HWT := Lib.hid (with_any (fun b => P b ∧ b ≠ w.heap.size + 1) me j p n c qs ⟨x.p, x.n, x.c, q.2 + 1⟩ (q.1, q.2 + 1) (w1.alloc (.cells #[.slice x.p x.n x.c, .int .i64 (q.2 + 1)] 46)) HN.out (HPR.out _ HBW.out) ⟨rfl, HX.out.2.1, HX.out.2.2.kept (oneB w1 _)⟩ HJ.out HB9.out (fun b hb => ⟨HPP.out b (by have := HBW.out.size; omega), by have := HGN.out; simp at hb; omega⟩))
  have HR2 := Lib.hid (HR1.out.alloc (.cells #[.slice x.p x.n x.c, .int .i64 (q.2 + 1)] 46))
  dsimp only at HWT
  go_wp2_with fail
  clear c0 c1
  generalize w1.alloc (.cells #[.slice x.p x.n x.c, .int .i64 (q.2 + 1)] 46) = w2 at *
  refine HWT.out.mono ?_
  rintro y w3 ⟨_, rfl, ⟨p3, c3, rfl, hp3⟩, hb3⟩
  have hlen : (qs.set j (q.1, q.2 + 1)).length = n := by rw [List.length_set, ← HN.out]
  rw [hlen] at hp3 ⊢
  have HLEN := Lib.hid hlen
  have HP3 := Lib.hid hp3
  have HR3 := Lib.hid (HR2.out.below hb3 HR2.out.lt)
  have HB3 := Lib.hid (HBW.out.trans (hb3.mono HBW.out.size))
  clear hp3 hb3 hlen
  go_wp2_with (with_reducible refine stop_storeT 27 (.tmp 4) (.tmp 24) rfl ?_)
  have HTH : Hid (w3.there (w.heap.size + 1) 0 2) := HR3.out.thereAt
  have HF : Hid (Blk (w3.setCells (w.heap.size + 1) 0 [.int .i64 me, .slice p3 n c3]) (w.heap.size + 1) #[.int .i64 me, .slice p3 n c3] 27 ∧ Chg (w.heap.size + 1) w3 (w3.setCells (w.heap.size + 1) 0 [.int .i64 me, .slice p3 n c3])) := ⟨blk_put_all HR3.out _ rfl, chg_putL _ _ _ _ _ (Chg.refl _ _)⟩
  refine wpList_store_mid rfl 27 (.tmp 4) (.tmp 24) rfl (w.heap.size + 1) 0 #[.int .i64 me, .slice p3 n c3] rfl rfl HTH.out infoL (all_oneCell_toArray (oneL _ _ _ _)) ?_
  generalize World.setCells w3 _ _ _ = w5 at *
  go_wp2_with fail
  have hf := HF.out.1
  refine bodyPost_ret (v := .tuple #[.agg #[.int .i64 me, .slice p3 n c3], .int .i64 0]) (by simp [results, Try.results10, go_sem, hf.cell 0, hf.cell 1]) rfl ?_
  refine ⟨_, rfl, ⟨p3, c3, by rw [HLEN.out], by rw [HLEN.out]; exact (HP3.out.keepP (KeepP.of_chg HF.out.2 (fun h => h.2 rfl))).mono (fun b _ h => h.1)⟩, HB3.out.trans (HF.out.2.below (by omega) HB3.out.size)⟩
end Go.Proofs.Ytpjekejkhncjpaa
