/- msg.check by contract. -/
import Derived.Test.YtbimbpmdiahhbaaMsgNums
import Derived.Test.YtbimbpmdiahhbaaTRow2
namespace Go.Proofs.Ytbimbpmdiahhbaa
open Go.RowKit
set_option linter.unusedSimpArgs false
def encP : Enc (Nat × Nat) := ⟨1, fun x => [.pointer (some ⟨x.1, x.2, none⟩)], by decide, fun _ => rfl, by intro x u hu; simp at hu; subst hu; rfl⟩
theorem TRow.of_blk {α : Type} (e : Enc α) {w : World} {b n c : Nat} {cs : Array Value} {ty : TypeId} {xs : List α} (hB : Blk w b cs ty) (hcs : cs.toList = xs.flatMap e.E) (hc : xs.length ≤ c) (hn : n = xs.length := by rfl) : TRow e w (.slice (some ⟨b, 0, none⟩) n c) xs := by
  subst hn
  refine ⟨_, c, rfl, hc, .inr ⟨b, 0, rfl, hB.lt, fun i hi t ht => ?_⟩⟩
  rw [Nat.zero_add, hB.cell, ← Array.getElem?_toList, hcs, flat_get e xs i t hi ht]
def IdxA {α : Type} (p : α → Bool) (xs : List α) (r : Int) : Prop := (r = -1 ∧ xs.any p = false) ∨ (0 ≤ r ∧ xs.any p = true)
theorem idxA_ge {α : Type} {p : α → Bool} {xs : List α} {r : Int} (h : IdxA p xs r) : decide (0 ≤ r) = xs.any p := by
  rcases h with ⟨rfl, h⟩ | ⟨h1, h⟩
  · rw [h]; rfl
  · rw [h]; exact decide_eq_true h1
theorem any_none {α : Type} {p : α → Bool} {xs : List α} {n : Nat} (hn : xs.length ≤ n) (h : ∀ j (hj : j < xs.length), j < n → p xs[j] = false) : xs.any p = false := by
  rw [List.any_eq_false]
  intro x hx
  obtain ⟨j, hj, rfl⟩ := List.mem_iff_getElem.1 hx
  simp [h j hj (by omega)]
theorem any_some {α : Type} {p : α → Bool} {xs : List α} {k : Nat} (hk : k < xs.length) (h : p xs[k] = true) : xs.any p = true := List.any_eq_true.2 ⟨_, List.getElem_mem hk, h⟩
set_option maxHeartbeats 4000000 in
set_option maxRecDepth 100000 in
theorem idxp_any (w : World) (v : Value) (xs : List (Nat × Nat)) (z : Nat × Nat → Int) (hr : TRow encP w v xs) (hz : ∀ x ∈ xs, w.cell? ⟨x.1, x.2, none⟩ = some (.int .i64 (z x))) (hn : xs.length ≤ 2000) :
    Calls Try.prog 41 #[v, .func (.func 31) #[] #[]] w fun e w' => ∃ r, e = .returned (.int .i64 r) ∧ IdxA (fun x => !okN (z x)) xs r ∧ w = w' := by
  obtain ⟨pv, c, rfl⟩ := hr.shape
  have HR := Lib.hid hr
  have HZ := Lib.hid hz
  clear hr hz
  generalize hl : xs.length = n at *
  have HL := Lib.hid hl
  clear hl
  go_enter Try.func41, Try.ntmps41
  go_wp2_with fail
  go_loopw [5, 8] (fun _ i wr => ∃ k : Nat, k ≤ n ∧ i = .int .i64 k ∧ Hid (w = wr ∧ ∀ j (hj : j < xs.length), j < k → (!okN (z xs[j])) = false)) (fun _ i _ => n - (intOf i).toNat)
  case atStart => exact ⟨0, by omega, rfl, ⟨rfl, fun j hj h => by omega⟩⟩
  case round =>
    obtain ⟨k, hk, rfl, HB⟩ := hrel
    obtain rfl := HB.out.1
    by_cases hlt : k < n
    · have hkl : k < xs.length := by rw [HL.out]; exact hlt
      have hltI : (k : Int) < (n : Int) := by omega
      obtain ⟨b, o, rfl, hbl, hcs⟩ := HR.out.at_ k hkl
      have hzc := HZ.out xs[k] (List.getElem_mem hkl)
      obtain ⟨x, hx⟩ : ∃ x, xs[k] = x := ⟨_, rfl⟩
      have HX := Lib.hid hx
      rw [hx] at hcs hzc
      clear hx
      have c0 : w.cell? ⟨b, o + k, none⟩ = some (.pointer (some ⟨x.1, x.2, none⟩)) := by have := hcs 0 (by decide); simpa [encP] using this
      have HD := Lib.hid (outside_any x.1 x.2 (z x) w hzc)
      obtain ⟨px, hpx⟩ : ∃ px, (!okN (z x)) = px := ⟨_, rfl⟩
      rw [hpx] at HD
      have HPX := Lib.hid hpx
      clear hcs hpx hzc
      cases px
      · go_wp2_with fail
        refine HD.out.mono ?_
        rintro y w1 ⟨rfl, rfl⟩
        have HN : Hid (w = w ∧ ∀ j (hj : j < xs.length), j < k + 1 → (!okN (z xs[j])) = false) := ⟨rfl, fun j hj h => by
          by_cases e : j = k
          · subst e; rw [HX.out]; exact HPX.out
          · exact HB.out.2 j hj (by omega)⟩
        clear HD
        go_wp2_with fail
        go_roundw
        case rel => exact ⟨k + 1, by omega, by go_num, HN⟩
        case measure => simp [intOf]; omega
      · go_wp2_with fail
        refine HD.out.mono ?_
        rintro y w1 ⟨rfl, rfl⟩
        clear HD
        go_wp2_with fail
        go_ret
        exact ⟨_, rfl, .inr ⟨by omega, any_some (p := fun x => !okN (z x)) hkl (by show (!okN (z xs[k])) = true; rw [HX.out]; exact HPX.out)⟩, rfl⟩
    · have hle : (n : Int) ≤ (k : Int) := by omega
      go_wp2_with fail
      go_ret
      exact ⟨_, rfl, .inl ⟨rfl, any_none (n := k) (by have := HL.out; omega) HB.out.2⟩, rfl⟩
set_option maxHeartbeats 1000000 in
theorem contp_any (w : World) (v : Value) (xs : List (Nat × Nat)) (z : Nat × Nat → Int) (hr : TRow encP w v xs) (hz : ∀ x ∈ xs, w.cell? ⟨x.1, x.2, none⟩ = some (.int .i64 (z x))) (hn : xs.length ≤ 2000) :
    Calls Try.prog 30 #[v, .func (.func 31) #[] #[]] w fun e w' => e = .returned (.bool (xs.any (fun x => !okN (z x)))) ∧ w = w' := by
  have HI := Lib.hid (idxp_any w v xs z hr hz hn)
  obtain ⟨pv, c, rfl⟩ := hr.shape
  clear hr hz hn
  go_enter Try.func30, Try.ntmps30
  go_wp2_with fail
  refine HI.out.mono ?_
  rintro y w1 ⟨r, rfl, hI, rfl⟩
  have HR := Lib.hid hI
  clear hI HI
  go_wp2_with fail
  go_ret
  exact ⟨by rw [← idxA_ge HR.out]; rfl, rfl⟩
def ptrs3 (g : Nat) : List (Nat × Nat) := [(g, 0), (g, 1), (g, 2)]
theorem ptrs3_any (g : Nat) (x : Lin) (z : Nat × Nat → Int) (h0 : z (g, 0) = x.s) (h1 : z (g, 1) = x.n) (h2 : z (g, 2) = x.b) : (ptrs3 g).any (fun x => !okN (z x)) = !x.ok := by
  simp [ptrs3, h0, h1, h2, Lin.ok]
set_option maxHeartbeats 1000000 in
theorem lineOut_any (x : Lin) (w : World) : Calls Try.prog 33 #[.agg #[.int .i64 x.s, .int .i64 x.n, .int .i64 x.b, .int .i64 x.a]] w fun e w' => e = .returned (.bool (!x.ok)) ∧ Below w.heap.size w w' := by
  go_enter Try.func33, Try.ntmps33
  go_wp2_with fail
  refine (lnumbers_any _ _).mono ?_
  have HX := Lib.hid (Blk.new w #[.int .i64 x.s, .int .i64 x.n, .int .i64 x.b, .int .i64 x.a] 49)
  have HB := Lib.hid (oneB w (.cells #[.int .i64 x.s, .int .i64 x.n, .int .i64 x.b, .int .i64 x.a] 49))
  generalize hW0 : w.alloc (.cells #[.int .i64 x.s, .int .i64 x.n, .int .i64 x.b, .int .i64 x.a] 49) = W0 at *
  have HG : Hid (w.heap.size < W0.heap.size) := HX.out.lt
  generalize hg : w.heap.size = g at *
  rintro y W1 ⟨rfl, hb1⟩
  have HX1 := Lib.hid (HX.out.below hb1 HG.out)
  have HB1 := Lib.hid (HB.out.trans (hb1.mono (Nat.le_of_lt HG.out)))
  clear hb1
  go_wp2_with fail
  refine (contp_any _ _ (ptrs3 g) (fun p => if p.2 = 0 then x.s else if p.2 = 1 then x.n else x.b) (TRow.of_blk encP (Blk.new W1 #[.pointer (some ⟨g, 0, none⟩), .pointer (some ⟨g, 1, none⟩), .pointer (some ⟨g, 2, none⟩)] 64) rfl (by simp [ptrs3])) ?_ (by simp [ptrs3])).mono ?_
  · intro p hp
    have hc := HX1.out.alloc (.cells #[.pointer (some ⟨g, 0, none⟩), .pointer (some ⟨g, 1, none⟩), .pointer (some ⟨g, 2, none⟩)] 64)
    simp [ptrs3] at hp
    rcases hp with rfl | rfl | rfl
    · exact hc.cell 0
    · exact hc.cell 1
    · exact hc.cell 2
  rw [ptrs3_any g x _ rfl rfl rfl]
  rintro y W2 ⟨rfl, rfl⟩
  go_wp2_with fail
  go_ret
  have hS := HB1.out.size
  rw [hg] at hS ⊢
  exact ⟨rfl, HB1.out.trans ((oneB W1 _).mono hS)⟩

set_option maxHeartbeats 4000000 in
set_option maxRecDepth 100000 in
theorem idxl_any (w : World) (v : Value) (xs : List Lin) (hr : TRow encN w v xs) (hn : xs.length ≤ 2000) :
    Calls Try.prog 42 #[v, .func (.func 33) #[] #[]] w fun e w' => ∃ r, e = .returned (.int .i64 r) ∧ IdxA (fun x => !Lin.ok x) xs r ∧ Below w.heap.size w w' := by
  obtain ⟨pv, c, rfl⟩ := hr.shape
  have HR := Lib.hid hr
  clear hr
  generalize hl : xs.length = n at *
  have HL := Lib.hid hl
  clear hl
  go_enter Try.func42, Try.ntmps42
  go_wp2_with fail
  go_loopw [5, 8] (fun _ i wr => ∃ k : Nat, k ≤ n ∧ i = .int .i64 k ∧ Hid (Below w.heap.size w wr ∧ ∀ j (hj : j < xs.length), j < k → (!Lin.ok xs[j]) = false)) (fun _ i _ => n - (intOf i).toNat)
  case atStart => exact ⟨0, by omega, rfl, ⟨Below.refl _ _, fun j hj h => by omega⟩⟩
  case round =>
    obtain ⟨k, hk, rfl, HB⟩ := hrel
    by_cases hlt : k < n
    · have hkl : k < xs.length := by rw [HL.out]; exact hlt
      have hltI : (k : Int) < (n : Int) := by omega
      obtain ⟨b, o, rfl, hbl, hcs⟩ := (HR.out.kept HB.out.1).at_ k hkl
      obtain ⟨x, hx⟩ : ∃ x, xs[k] = x := ⟨_, rfl⟩
      have HX := Lib.hid hx
      rw [hx] at hcs
      clear hx
      have c0 : wr.cell? ⟨b, o + k * 4, none⟩ = some (.int .i64 x.s) := hcs 0 (by decide)
      have c1 : wr.cell? ⟨b, o + k * 4 + 1, none⟩ = some (.int .i64 x.n) := hcs 1 (by decide)
      have c2 : wr.cell? ⟨b, o + k * 4 + 2, none⟩ = some (.int .i64 x.b) := hcs 2 (by decide)
      have c3 : wr.cell? ⟨b, o + k * 4 + 3, none⟩ = some (.int .i64 x.a) := hcs 3 (by decide)
      have HD := Lib.hid (lineOut_any x wr)
      obtain ⟨px, hpx⟩ : ∃ px, (!Lin.ok x) = px := ⟨_, rfl⟩
      rw [hpx] at HD
      have HPX := Lib.hid hpx
      clear hcs hpx
      cases px
      · go_wp2_with fail
        refine HD.out.mono ?_
        rintro y w1 ⟨rfl, hb⟩
        have HN : Hid (Below w.heap.size w w1 ∧ ∀ j (hj : j < xs.length), j < k + 1 → (!Lin.ok xs[j]) = false) := ⟨HB.out.1.trans (hb.mono HB.out.1.size), fun j hj h => by
          by_cases e : j = k
          · subst e; rw [HX.out]; exact HPX.out
          · exact HB.out.2 j hj (by omega)⟩
        clear hb c0 c1 c2 c3 HD
        go_wp2_with fail
        go_roundw
        case rel => exact ⟨k + 1, by omega, by go_num, HN⟩
        case measure => simp [intOf]; omega
      · go_wp2_with fail
        refine HD.out.mono ?_
        rintro y w1 ⟨rfl, hb⟩
        have HN := Lib.hid (HB.out.1.trans (hb.mono HB.out.1.size))
        clear hb c0 c1 c2 c3 HD
        go_wp2_with fail
        go_ret
        exact ⟨_, rfl, .inr ⟨by omega, any_some (p := fun x => !Lin.ok x) hkl (by show (!Lin.ok xs[k]) = true; rw [HX.out]; exact HPX.out)⟩, HN.out⟩
    · have hle : (n : Int) ≤ (k : Int) := by omega
      go_wp2_with fail
      go_ret
      exact ⟨_, rfl, .inl ⟨rfl, any_none (n := k) (by have := HL.out; omega) HB.out.2⟩, HB.out.1⟩
theorem any_not (xs : List Lin) : xs.any (fun x => !Lin.ok x) = !xs.all Lin.ok := by
  induction xs with
  | nil => rfl
  | cons x xs ih => simp [ih]
set_option maxHeartbeats 1000000 in
theorem contl_any (w : World) (v : Value) (xs : List Lin) (hr : TRow encN w v xs) (hn : xs.length ≤ 2000) :
    Calls Try.prog 32 #[v, .func (.func 33) #[] #[]] w fun e w' => e = .returned (.bool (!xs.all Lin.ok)) ∧ Below w.heap.size w w' := by
  have HI := Lib.hid (idxl_any w v xs hr hn)
  rw [← any_not]
  obtain ⟨pv, c, rfl⟩ := hr.shape
  clear hr hn
  go_enter Try.func32, Try.ntmps32
  go_wp2_with fail
  refine HI.out.mono ?_
  rintro y w1 ⟨r, rfl, hI, hb⟩
  have HR := Lib.hid hI
  have HB := Lib.hid hb
  clear hI HI hb
  go_wp2_with fail
  go_ret
  exact ⟨by rw [← idxA_ge HR.out]; rfl, HB.out⟩
def ptrs6 (g : Nat) : List (Nat × Nat) := [(g, 1), (g, 2), (g, 3), (g, 4), (g, 5), (g, 6)]
def msgZ (m : Msg) (p : Nat × Nat) : Int := if p.2 = 1 then m.s else if p.2 = 2 then m.n else if p.2 = 3 then m.b else if p.2 = 4 then m.c else if p.2 = 5 then m.r else m.y
theorem ptrs6_any (g : Nat) (m : Msg) : (ptrs6 g).any (fun x => !okN (msgZ m x)) = !m.numsOk := by
  simp [ptrs6, msgZ, Msg.numsOk]
def msgCs (m : Msg) (vl vn : Value) : Array Value := #[.int .i64 m.k, .int .i64 m.s, .int .i64 m.n, .int .i64 m.b, .int .i64 m.c, .int .i64 m.r, .int .i64 m.y, .int .i64 m.a, .bool m.t, vl, vn]
theorem ret_ie {a b : Int} (h : a = b) : Ending.returned (.int .i64 a) = .returned (.int .i64 b) := by rw [h]
set_option maxHeartbeats 4000000 in
set_option maxRecDepth 100000 in
theorem mcheck_any (m : Msg) (vl vn : Value) (w : World) (hl : TRow encN w vl m.ls) (hn : Row .i64 w vn m.ns) (bl : m.ls.length ≤ 140737488355328) (bn : m.ns.length ≤ 140737488355328) : Calls Try.prog 14 #[.agg #[.int .i64 m.k, .int .i64 m.s, .int .i64 m.n, .int .i64 m.b, .int .i64 m.c, .int .i64 m.r, .int .i64 m.y, .int .i64 m.a, .bool m.t, vl, vn]] w fun e w' => e = .returned (.int .i64 (msgE m)) ∧ Below w.heap.size w w' := by
  obtain ⟨pl, cl, rfl⟩ := hl.shape
  obtain ⟨pn, cn, rfl⟩ := hn.shape
  have HL := Lib.hid hl
  clear hl hn
  generalize hE : msgE m = E at *
  generalize hll : m.ls.length = nl at *
  generalize hnl : m.ns.length = nn at *
  have HNL := Lib.hid hll
  have HEE := Lib.hid hE
  have HNN := Lib.hid hnl
  clear hE hnl hll
  go_enter Try.func14, Try.ntmps14
  go_wp2_with fail
  have HX := Lib.hid (Blk.new w (msgCs m (.slice pl nl cl) (.slice pn nn cn)) 29)
  have HB := Lib.hid (oneB w (.cells (msgCs m (.slice pl nl cl) (.slice pn nn cn)) 29))
  unfold msgCs at HX HB
  generalize hW0 : w.alloc (.cells #[.int .i64 m.k, .int .i64 m.s, .int .i64 m.n, .int .i64 m.b, .int .i64 m.c, .int .i64 m.r, .int .i64 m.y, .int .i64 m.a, .bool m.t, .slice pl nl cl, .slice pn nn cn] 29) = W0 at *
  have HL0 := Lib.hid (HL.out.kept HB.out)
  have HG : Hid (w.heap.size < W0.heap.size) := HX.out.lt
  have HNG : Hid (Below w.heap.size w W0) := HB.out
  have hc8 : W0.cell? ⟨w.heap.size, 9, none⟩ = some (.slice pl nl cl) := HX.out.cell 9
  have hc9 : W0.cell? ⟨w.heap.size, 10, none⟩ = some (.slice pn nn cn) := HX.out.cell 10
  clear hW0 HB HL
  refine (known_any m.k W0).mono ?_
  rintro y w1 ⟨rfl, rfl⟩
  generalize hk : okK m.k = bk at *
  have HK := Lib.hid hk
  clear hk
  cases bk
  · go_wp2_with fail
    go_ret
    exact ⟨ret_ie (by rw [← HEE.out]; unfold msgE; rw [if_pos HK.out]), HNG.out⟩
  · by_cases h1 : 1024 < nl
    · have h1' : (1024 : Int) < (nl : Int) := by omega
      go_wp2_with fail
      go_ret
      exact ⟨ret_ie (by rw [← HEE.out]; unfold msgE; rw [HNL.out, HK.out, if_neg (by decide), if_pos (.inl h1)]), HNG.out⟩
    · by_cases h2 : 8 < nn
      · have h1' : (nl : Int) ≤ 1024 := by omega
        have h2' : (8 : Int) < (nn : Int) := by omega
        go_wp2_with fail
        go_ret
        exact ⟨ret_ie (by rw [← HEE.out]; unfold msgE; rw [HNL.out, HNN.out, HK.out, if_neg (by decide), if_pos (.inr h2)]), HNG.out⟩
      · have h1' : (nl : Int) ≤ 1024 := by omega
        have h2' : (nn : Int) ≤ 8 := by omega
        have HEQ : Hid ((if m.numsOk = false ∨ m.ls.all Lin.ok = false then (1 : Int) else 0) = E) := by
          show _ = _
          rw [← HEE.out]; unfold msgE; rw [if_neg (c := okK m.k = false) (by rw [HK.out]; decide), if_neg (c := 1024 < m.ls.length ∨ 8 < m.ns.length) (by rw [HNL.out, HNN.out]; omega)]
        clear HEE
        go_wp2_with fail
        refine (mnums_any _ _).mono ?_
        rintro y W1 ⟨rfl, hb1⟩
        have HX1 := Lib.hid (HX.out.below hb1 HG.out)
        have HB1 := Lib.hid (HNG.out.trans (hb1.mono (Nat.le_of_lt HG.out)))
        have HL1 := Lib.hid (HL0.out.kept hb1)
        clear hb1 hc8 hc9
        have hc8 : W1.cell? ⟨w.heap.size, 9, none⟩ = some (.slice pl nl cl) := HX1.out.cell 9
        go_wp2_with fail
        refine (contp_any _ _ (ptrs6 w.heap.size) (msgZ m) (TRow.of_blk encP (Blk.new W1 #[.pointer (some ⟨w.heap.size, 1, none⟩), .pointer (some ⟨w.heap.size, 2, none⟩), .pointer (some ⟨w.heap.size, 3, none⟩), .pointer (some ⟨w.heap.size, 4, none⟩), .pointer (some ⟨w.heap.size, 5, none⟩), .pointer (some ⟨w.heap.size, 6, none⟩)] 60) rfl (by simp [ptrs6])) ?_ (by simp [ptrs6])).mono ?_
        · intro p hp
          have hc := HX1.out.alloc (.cells #[.pointer (some ⟨w.heap.size, 1, none⟩), .pointer (some ⟨w.heap.size, 2, none⟩), .pointer (some ⟨w.heap.size, 3, none⟩), .pointer (some ⟨w.heap.size, 4, none⟩), .pointer (some ⟨w.heap.size, 5, none⟩), .pointer (some ⟨w.heap.size, 6, none⟩)] 60)
          simp [ptrs6] at hp
          rcases hp with rfl | rfl | rfl | rfl | rfl | rfl
          · exact hc.cell 1
          · exact hc.cell 2
          · exact hc.cell 3
          · exact hc.cell 4
          · exact hc.cell 5
          · exact hc.cell 6
        rw [ptrs6_any]
        generalize hnb : m.numsOk = nb at *
        have HNB := Lib.hid hnb
        clear hnb
        have HL2 := Lib.hid (HL1.out.kept (oneB W1 (.cells #[.pointer (some ⟨w.heap.size, 1, none⟩), .pointer (some ⟨w.heap.size, 2, none⟩), .pointer (some ⟨w.heap.size, 3, none⟩), .pointer (some ⟨w.heap.size, 4, none⟩), .pointer (some ⟨w.heap.size, 5, none⟩), .pointer (some ⟨w.heap.size, 6, none⟩)] 60)))
        have HB2 := Lib.hid (HB1.out.trans ((oneB W1 (.cells #[.pointer (some ⟨w.heap.size, 1, none⟩), .pointer (some ⟨w.heap.size, 2, none⟩), .pointer (some ⟨w.heap.size, 3, none⟩), .pointer (some ⟨w.heap.size, 4, none⟩), .pointer (some ⟨w.heap.size, 5, none⟩), .pointer (some ⟨w.heap.size, 6, none⟩)] 60)).mono HB1.out.size))
        have hc8' := (HX1.out.alloc (.cells #[.pointer (some ⟨w.heap.size, 1, none⟩), .pointer (some ⟨w.heap.size, 2, none⟩), .pointer (some ⟨w.heap.size, 3, none⟩), .pointer (some ⟨w.heap.size, 4, none⟩), .pointer (some ⟨w.heap.size, 5, none⟩), .pointer (some ⟨w.heap.size, 6, none⟩)] 60)).cell 9
        generalize hW2 : W1.alloc (.cells #[.pointer (some ⟨w.heap.size, 1, none⟩), .pointer (some ⟨w.heap.size, 2, none⟩), .pointer (some ⟨w.heap.size, 3, none⟩), .pointer (some ⟨w.heap.size, 4, none⟩), .pointer (some ⟨w.heap.size, 5, none⟩), .pointer (some ⟨w.heap.size, 6, none⟩)] 60) = W2 at *
        have hc82 : W2.cell? ⟨w.heap.size, 9, none⟩ = some (.slice pl nl cl) := hc8'
        clear hW2 hc8 hc8'
        rintro y w2 ⟨rfl, rfl⟩
        cases nb
        · go_wp2_with fail
          go_ret
          exact ⟨ret_ie (by rw [← HEQ.out]; simp), HB2.out⟩
        · go_wp2_with fail
          refine (contl_any W2 _ m.ls HL2.out (by have := HNL.out; omega)).mono ?_
          generalize hlb : m.ls.all Lin.ok = lb at *
          have HLB := Lib.hid hlb
          clear hlb
          rintro y w3 ⟨rfl, hb3⟩
          have HB3 := Lib.hid (HB2.out.trans (hb3.mono HB2.out.size))
          clear hb3
          cases lb
          · go_wp2_with fail
            go_ret
            exact ⟨ret_ie (by rw [← HEQ.out]; simp), HB3.out⟩
          · go_wp2_with fail
            go_ret
            exact ⟨ret_ie (by rw [← HEQ.out, if_neg (by simp)]), HB3.out⟩
end Go.Proofs.Ytbimbpmdiahhbaa
