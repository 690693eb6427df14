/- NetFull: the walk. -/
import Derived.Test.YtfdehnfcoojljaaNetCarries
namespace Go.Proofs.Ytfdehnfcoojljaa
open Go.RowKit
set_option linter.unusedSimpArgs false
theorem made_getK (z : Array Value) (k n i t : Nat) (hz : z.size = k) (hi : i < n) (ht : t < k) : (madeCells z (n * k))[i * k + t]? = z[t]? := by
  have hlt : i * k + t < n * k := mul_lt_of hi ht
  have hm : (i * k + t) % k = t := by rw [Nat.mul_comm, Nat.mul_add_mod]; exact Nat.mod_eq_of_lt ht
  unfold madeCells
  simp only [Array.getElem?_map, Array.getElem?_range, if_pos hlt, Option.map_some, hz, hm]
  simp [hz, ht]
theorem makeK (w : World) (l : Int) (c : Nat) (hl : l = c) (hc : c ≤ 10000) : ∃ w', (Instr.makeSlice 27 (.int .i64 l) (.int .i64 l)).run Try.prog w = .ok (.slice (some ⟨w.heap.size, 0, none⟩) c c) w' ∧ PkRow (fun b => b = w.heap.size) w' (.slice (some ⟨w.heap.size, 0, none⟩) c c) (List.replicate c (pk3 0 0 0)) ∧ Below w.heap.size w w' ∧ w'.heap.size = w.heap.size + 1 := by
  subst hl
  obtain ⟨i0, hu, hi, hz, hs, hby⟩ := eltK
  have hmk := run_make (P := Try.prog) w 27 38 i0 _ hu hi hz .i64 .i64 (c : Int) (c : Int) (by omega) (Int.le_refl _) (by rw [hby]; omega) (by omega)
  rw [hs] at hmk
  simp only [Int.toNat_natCast] at hmk
  refine ⟨_, hmk, ?_, oneB w _, by simp⟩
  have hB := Blk.new w (madeCells zeroVK.cells (c * encK.k)) 38
  refine ⟨List.replicate c (pkx3 0 0 0), ⟨_, c, by rw [List.length_replicate], by simp, .inr ⟨w.heap.size, 0, rfl, hB.lt, fun i hi t ht => ?_⟩⟩, (fun b o n c e _ => by cases e; rfl), (fun y hy => ?_), by simp [pkx3, pk3, PkX.pk, msgZX]⟩
  · rw [List.length_replicate] at hi
    rw [List.getElem_replicate, Nat.zero_add]
    refine (hB.cell _).trans ((made_getK _ encK.k c i t rfl hi ht).trans ?_)
    have ht' : t < 15 := ht
    match t, ht' with
    | 0, _ => rfl
    | 1, _ => rfl
    | 2, _ => rfl
    | 3, _ => rfl
    | 4, _ => rfl
    | 5, _ => rfl
    | 6, _ => rfl
    | 7, _ => rfl
    | 8, _ => rfl
    | 9, _ => rfl
    | 10, _ => rfl
    | 11, _ => rfl
    | 12, _ => rfl
    | 13, _ => rfl
    | 14, _ => rfl
  · rw [List.mem_replicate] at hy
    rw [hy.2]
    exact msgZX_in _ _
set_option maxHeartbeats 4000000 in
set_option maxRecDepth 100000 in
theorem nfull_walk (more : Int) (W : World) (_ : -9223372036854775808 ≤ more ∧ more ≤ 9223372036854775807) : Calls Try.prog 4 #[.int .i64 more] W fun e w' => e = .returned (.bool true) ∧ Below W.heap.size W w'  := by
  by_cases h1 : more < 0
  · skip
    go_enter Try.func4, Try.ntmps4
    go_wp2_with fail
    refine (carries_any _).mono ?_
    rintro y w1 ⟨rfl, hb1⟩
    have B1 := Lib.hid hb1
    clear hb1
    go_wp2_with fail
    go_ret
    exact ⟨rfl, B1.out⟩
  by_cases h2 : 5 < more
  · skip
    go_enter Try.func4, Try.ntmps4
    go_wp2_with fail
    refine (carries_any _).mono ?_
    rintro y w1 ⟨rfl, hb1⟩
    have B1 := Lib.hid hb1
    clear hb1
    go_wp2_with fail
    go_ret
    exact ⟨rfl, B1.out⟩
  obtain ⟨k, rfl⟩ : ∃ k : Nat, more = k := ⟨more.toNat, by omega⟩
  have hk5 : k ≤ 5 := by omega
  go_enter Try.func4, Try.ntmps4
  go_wp2_with fail
  refine (carries_any _).mono ?_
  rintro y w1 ⟨rfl, hb1⟩
  obtain ⟨w3, hmk, hrow, hb3, hs3⟩ := makeK (w1.alloc (.cells #[.slice none 0 0] 26)) 8189 8189 rfl (by decide)
  have HN3 : Hid (Net W.heap.size (fun b => b = w1.heap.size + 1) w3 w1.heap.size []) := (Net.zero W.heap.size (fun b => b = w1.heap.size + 1) w1 hb1.size (by simp)).kept hb3
  have B3 := Lib.hid ((hb1.alloc hb1.size (.cells #[.slice none 0 0] 26)).trans (hb3.mono (by have := hb1.size; simp; omega)))
  rw [show (w1.alloc (.cells #[.slice none 0 0] 26)).heap.size = w1.heap.size + 1 by simp] at hmk hrow hs3
  have HR3 := Lib.hid hrow
  have HS3 := Lib.hid hs3
  clear hb1 hb3 hrow hs3
  go_upto_region 7 with fail
  clear hmk
  generalize w1.heap.size = g at *
  go_wp2_with fail
  refine (net_send w3 _ HN3.out HR3.out (fun b hb => .inr hb) (fun b hb => by have := HS3.out; omega)).mono ?_
  rintro y w4 ⟨rfl, hn4, hb4, hk4⟩
  rw [show ((min (List.replicate 8189 (pk3 0 0 0)).length (8192 - ([] : List Pk).length) : Nat) : Int) = 8189 by rw [List.length_replicate]; rfl]
  obtain ⟨ks, hks⟩ : ∃ ks, [] ++ (List.replicate 8189 (pk3 0 0 0)).take (8192 - ([] : List Pk).length) = ks := ⟨_, rfl⟩
  have HKL : Hid (ks.length = 8189) := by show _ = _; rw [← hks, List.length_append, List.length_take, List.length_replicate]; rfl
  rw [hks] at hn4
  have HN4 := Lib.hid hn4
  have B4 := Lib.hid (B3.out.trans hb4)
  have HR4 := Lib.hid (HR3.out.keepP hk4)
  have HS4 : Hid (g + 1 < w4.heap.size) := by show _ < _; have := hk4.1; have := HS3.out; omega
  clear hks hn4 hb4 hk4 HN3 HR3 B3 HS3
  obtain ⟨w5, hmk, hrow, hb5, hs5⟩ := makeK w4 (3 + (k : Int)) (3 + k) (by omega) (by omega)
  have HN5 : Hid (Net W.heap.size (fun b => b = g + 1 ∨ b = w4.heap.size) w5 g ks) := (HN4.out.ext (fun b hb h => h.elim id (fun e => by omega))).kept hb5
  have B5 := Lib.hid (B4.out.trans (hb5.mono B4.out.size))
  have HR5 := Lib.hid hrow
  have HL5 := Lib.hid (HR4.out.kept hb5)
  have HS5 := Lib.hid hs5
  clear hrow hb5 hs5 HN4 HR4 B4
  go_wp2_with fail
  clear hmk
  refine (net_send w5 _ HN5.out HR5.out (fun b hb => .inr (.inr hb)) (fun b hb => by have := HS5.out; have := HS4.out; omega)).mono ?_
  rintro y w6 ⟨rfl, hn6, hb6, hk6⟩
  rw [show ((min (List.replicate (3 + k) (pk3 0 0 0)).length (8192 - ks.length) : Nat) : Int) = 3 by rw [List.length_replicate, HKL.out]; omega]
  obtain ⟨ks6, hks⟩ : ∃ ks6, ks ++ (List.replicate (3 + k) (pk3 0 0 0)).take (8192 - ks.length) = ks6 := ⟨_, rfl⟩
  have HKL6 : Hid (ks6.length = 8192) := by show _ = _; rw [← hks, List.length_append, List.length_take, List.length_replicate, HKL.out]; omega
  rw [hks] at hn6
  have HN6 : Hid (Net W.heap.size (fun b => b = g + 1) w6 g ks6) := hn6.ext (fun b hb h => .inl h)
  have B6 := Lib.hid (B5.out.trans hb6)
  have HL6 := Lib.hid (HL5.out.keepP (hk6.weak (fun b hb => .inl hb)))
  have HS6 : Hid (g + 1 < w6.heap.size) := by show _ < _; have := hk6.1; have := HS5.out; have := HS4.out; omega
  clear hks hn6 hb6 hk6 HN5 HR5 HL5 HS5 HS4 B5 HKL
  go_wp2_with fail
  refine (net_len w6 HN6.out).mono ?_
  rintro y w7 ⟨rfl, rfl⟩
  rw [HKL6.out, show ((8192 : Nat) : Int) = 8192 from rfl]
  go_wp2_with fail
  refine (net_twice_full w7 0 HN6.out (by rw [HKL6.out]; decide) (by rw [HKL6.out]; decide)).mono ?_
  rintro y w8 ⟨rfl, rfl⟩
  go_wp2_with fail
  refine (net_take w8 8191 HN6.out (by rw [HKL6.out]; decide)).mono ?_
  rintro y w9 ⟨z, rfl, _, _, hn9, hb9, hk9⟩
  have HKL9 : Hid ((ks6.eraseIdx 8191).length = 8191) := by show _ = _; rw [List.length_eraseIdx, HKL6.out]; rfl
  generalize ks6.eraseIdx 8191 = ks9 at *
  have HN9 := Lib.hid (hn9.kept (oneB w9 (.cells #[.int .i64 z.f, .int .i64 z.t, .int .i64 z.n, .int .i64 z.h, .int .i64 z.x.m.k, .int .i64 z.x.m.s, .int .i64 z.x.m.n, .int .i64 z.x.m.b, .int .i64 z.x.m.c, .int .i64 z.x.m.r, .int .i64 z.x.m.y, .int .i64 z.x.m.a, .bool z.x.m.t, .slice z.x.pl z.x.m.ls.length z.x.cl, .slice z.x.pn z.x.m.ns.length z.x.cn] 38)))
  have B9 : Hid (Below W.heap.size W (w9.alloc (.cells #[.int .i64 z.f, .int .i64 z.t, .int .i64 z.n, .int .i64 z.h, .int .i64 z.x.m.k, .int .i64 z.x.m.s, .int .i64 z.x.m.n, .int .i64 z.x.m.b, .int .i64 z.x.m.c, .int .i64 z.x.m.r, .int .i64 z.x.m.y, .int .i64 z.x.m.a, .bool z.x.m.t, .slice z.x.pl z.x.m.ls.length z.x.cl, .slice z.x.pn z.x.m.ns.length z.x.cn] 38))) := (B6.out.trans hb9).alloc (B6.out.trans hb9).size _
  have HL9 := Lib.hid ((HL6.out.keepP hk9).kept (oneB w9 (.cells #[.int .i64 z.f, .int .i64 z.t, .int .i64 z.n, .int .i64 z.h, .int .i64 z.x.m.k, .int .i64 z.x.m.s, .int .i64 z.x.m.n, .int .i64 z.x.m.b, .int .i64 z.x.m.c, .int .i64 z.x.m.r, .int .i64 z.x.m.y, .int .i64 z.x.m.a, .bool z.x.m.t, .slice z.x.pl z.x.m.ls.length z.x.cl, .slice z.x.pn z.x.m.ns.length z.x.cn] 38)))
  have HS9 : Hid (g + 1 < (w9.alloc (.cells #[.int .i64 z.f, .int .i64 z.t, .int .i64 z.n, .int .i64 z.h, .int .i64 z.x.m.k, .int .i64 z.x.m.s, .int .i64 z.x.m.n, .int .i64 z.x.m.b, .int .i64 z.x.m.c, .int .i64 z.x.m.r, .int .i64 z.x.m.y, .int .i64 z.x.m.a, .bool z.x.m.t, .slice z.x.pl z.x.m.ls.length z.x.cl, .slice z.x.pn z.x.m.ns.length z.x.cn] 38)).heap.size) := by show _ < _; have := hk9.1; have := HS6.out; simp; omega
  clear hn9 hb9 hk9 HN6 B6 HL6 HS6
  unfold PkX.v
  go_upto_region 10 with fail
  generalize w9.alloc (.cells #[.int .i64 z.f, .int .i64 z.t, .int .i64 z.n, .int .i64 z.h, .int .i64 z.x.m.k, .int .i64 z.x.m.s, .int .i64 z.x.m.n, .int .i64 z.x.m.b, .int .i64 z.x.m.c, .int .i64 z.x.m.r, .int .i64 z.x.m.y, .int .i64 z.x.m.a, .bool z.x.m.t, .slice z.x.pl z.x.m.ls.length z.x.cl, .slice z.x.pn z.x.m.ns.length z.x.cn] 38) = w10 at *
  go_wp2_with fail
  refine (net_twice w10 0 HN9.out (by rw [HKL9.out]; decide) (by rw [HKL9.out]; decide) (fun b hb => by have := HS9.out; omega)).mono ?_
  rintro y w11 ⟨rfl, hn11, hb11, hk11⟩
  obtain ⟨ks11, hks⟩ : ∃ ks11, ks9 ++ [ks9[0]'(by rw [HKL9.out]; decide)] = ks11 := ⟨_, rfl⟩
  have HKL11 : Hid (ks11.length = 8192) := by show _ = _; rw [← hks, List.length_append, List.length_singleton]; have := HKL9.out; omega
  rw [hks] at hn11
  have HN11 := Lib.hid hn11
  have B11 := Lib.hid (B9.out.trans hb11)
  have HL11 := Lib.hid (HL9.out.keepP hk11)
  have HS11 : Hid (g + 1 < w11.heap.size) := by show _ < _; have := hk11.1; have := HS9.out; omega
  clear hks hn11 hb11 hk11 HN9 B9 HL9 HS9
  go_wp2_with fail
  refine (net_len w11 HN11.out).mono ?_
  rintro y w12 ⟨rfl, rfl⟩
  rw [HKL11.out, show ((8192 : Nat) : Int) = 8192 from rfl]
  go_wp2_with fail
  refine (net_send w12 _ HN11.out HL11.out (fun b hb => .inr hb) (fun b hb => by have := HS11.out; omega)).mono ?_
  rintro y w13 ⟨rfl, _, hb13, _⟩
  rw [show ((min (List.replicate 8189 (pk3 0 0 0)).length (8192 - ks11.length) : Nat) : Int) = 0 by rw [List.length_replicate, HKL11.out]; rfl]
  have B13 := Lib.hid (B11.out.trans hb13)
  clear hb13
  go_wp2_with fail
  go_ret
  exact ⟨rfl, B13.out⟩
end Go.Proofs.Ytfdehnfcoojljaa
