/- msg.Write by contract. -/
import Derived.Test.YtengkgpobckhjaaMsgWritten
namespace Go.Proofs.Ytengkgpobckhjaa
open Go.RowKit
set_option linter.unusedSimpArgs false
/-- What Write answers. -/
def wrL (zs : List Int) (m : Msg) : List Int := if msgE m = 0 then zs ++ msgL m else []
theorem lins_len : ∀ (xs : List Lin), (∀ x ∈ xs, x.Fit) → (xs.flatMap linL).length ≤ 40 * xs.length
  | [], _ => by simp
  | x :: xs, h => by
    have h1 := lins_len xs (fun y hy => h y (List.mem_cons_of_mem _ hy))
    obtain ⟨f1, f2, f3, f4⟩ := h x (by simp)
    have := numL_len f1.1 f1.2
    have := numL_len f2.1 f2.2
    have := numL_len f3.1 f3.2
    have := numL_len f4.1 f4.2
    rw [List.flatMap_cons, List.length_append, List.length_cons]
    simp only [linL, List.length_append]
    omega
theorem nets_len : ∀ (xs : List Int), (∀ x ∈ xs, I64 x) → (xs.flatMap numL).length ≤ 10 * xs.length
  | [], _ => by simp
  | x :: xs, h => by
    have h1 := nets_len xs (fun y hy => h y (List.mem_cons_of_mem _ hy))
    have f1 := h x (by simp)
    have := numL_len f1.1 f1.2
    rw [List.flatMap_cons, List.length_append, List.length_cons]
    omega
theorem msgL_len {m : Msg} (hF : m.Fit) (h1 : m.ls.length ≤ 1024) (h2 : m.ns.length ≤ 8) : (msgL m).length ≤ 50000 := by
  obtain ⟨⟨f1, f2, f3, f4, f5, f6, f7, f8⟩, hl, hn⟩ := hF
  have a1 := numL_len f1.1 f1.2
  have a2 := numL_len f2.1 f2.2
  have a3 := numL_len f3.1 f3.2
  have a4 := numL_len f4.1 f4.2
  have a5 := numL_len f5.1 f5.2
  have a6 := numL_len f6.1 f6.2
  have a7 := numL_len f7.1 f7.2
  have a8 := numL_len f8.1 f8.2
  have b1 := lins_len m.ls hl
  have b2 := nets_len m.ns hn
  have c1 := numL_len (n := (m.ls.length : Int)) (by omega) (by omega)
  have c2 := numL_len (n := (m.ns.length : Int)) (by omega) (by omega)
  simp only [msgL, msgL2, msgL3, boL, List.length_append, List.length_cons, List.length_nil]
  omega
theorem ret_ve {v : Value} {a b : Int} (h : a = b) : Ending.returned (.tuple #[v, .int .i64 a]) = .returned (.tuple #[v, .int .i64 b]) := by rw [h]
set_option maxHeartbeats 4000000 in
set_option maxRecDepth 100000 in
theorem write_any (vb : Value) (zs : List Int) (m : Msg) (vl vn : Value) (w : World) (hb : Row .u8 w vb zs) (hl : TRow encN w vl m.ls) (hn : Row .i64 w vn m.ns) (hF : m.Fit) (bb : zs.length ≤ 140737488300000) (bl : m.ls.length ≤ 140737488355328) (bn : m.ns.length ≤ 140737488355328) : Calls Try.prog 12 #[vb, .agg #[.int .i64 m.k, .int .i64 m.s, .int .i64 m.n, .int .i64 m.b, .int .i64 m.c, .int .i64 m.r, .int .i64 m.y, .int .i64 m.a, .bool m.t, vl, vn]] w fun e w' => ∃ v, e = .returned (.tuple #[v, .int .i64 (msgE m)]) ∧ Own .u8 w' w.heap.size 5 v (wrL zs m) ∧ Below w.heap.size w w' := by
  obtain ⟨pl, cl, rfl⟩ := hl.shape
  obtain ⟨pn, cn, rfl⟩ := hn.shape
  obtain ⟨pb, cb, rfl⟩ := hb.shape
  have HLK := Lib.hid (fun (w' : World) (h : Below w.heap.size w w') => hl.kept h)
  have HNK := Lib.hid (fun (w' : World) (h : Below w.heap.size w w') => hn.kept h)
  have HBK := Lib.hid (fun (w' : World) (h : Below w.heap.size w w') => hb.kept h)
  have HF := Lib.hid hF
  clear hl hn hb hF
  generalize hll : m.ls.length = nl at *
  generalize hnl : m.ns.length = nn at *
  generalize hbl : zs.length = nb at *
  have HLL := Lib.hid hll
  have HNN := Lib.hid hnl
  have HBL := Lib.hid hbl
  clear hll hnl hbl
  go_enter Try.func12, Try.ntmps12
  go_wp2_with fail
  have HM0 := Lib.hid (Blk.new w #[.int .i64 m.k, .int .i64 m.s, .int .i64 m.n, .int .i64 m.b, .int .i64 m.c, .int .i64 m.r, .int .i64 m.y, .int .i64 m.a, .bool m.t, .slice pl nl cl, .slice pn nn cn] 28)
  have HB0 := Lib.hid (oneB w (.cells #[.int .i64 m.k, .int .i64 m.s, .int .i64 m.n, .int .i64 m.b, .int .i64 m.c, .int .i64 m.r, .int .i64 m.y, .int .i64 m.a, .bool m.t, .slice pl nl cl, .slice pn nn cn] 28))
  generalize hW0 : w.alloc (.cells #[.int .i64 m.k, .int .i64 m.s, .int .i64 m.n, .int .i64 m.b, .int .i64 m.c, .int .i64 m.r, .int .i64 m.y, .int .i64 m.a, .bool m.t, .slice pl nl cl, .slice pn nn cn] 28) = W0 at *
  refine (mcheck_any m _ _ W0 (HLK.out _ HB0.out) (HNK.out _ HB0.out) (by have := HLL.out; omega) (by have := HNN.out; omega)).mono ?_
  rintro y W1 ⟨rfl, hb1⟩
  have HM1 := Lib.hid (HM0.out.below hb1 HM0.out.lt)
  have HB1 := Lib.hid (HB0.out.trans (hb1.mono (Nat.le_of_lt HM0.out.lt)))
  clear hb1 hW0
  by_cases hE : msgE m = 0
  · have HE := Lib.hid hE
    obtain ⟨_, e1, e2, _⟩ := msgE_ok hE
    have HWR : Hid (wrL zs m = zs ++ msgL m) := by show _ = _; unfold wrL; rw [if_pos hE]
    have HLEN := Lib.hid (msgL_len HF.out e1 e2)
    have HE1 := Lib.hid e1
    have HE2 := Lib.hid e2
    rw [hE]
    clear hE e1 e2
    have c0 : W1.cell? ⟨w.heap.size, 0, none⟩ = some (.int .i64 m.k) := HM1.out.cell 0
    have c1 : W1.cell? ⟨w.heap.size, 1, none⟩ = some (.int .i64 m.s) := HM1.out.cell 1
    have c2 : W1.cell? ⟨w.heap.size, 2, none⟩ = some (.int .i64 m.n) := HM1.out.cell 2
    have c3 : W1.cell? ⟨w.heap.size, 3, none⟩ = some (.int .i64 m.b) := HM1.out.cell 3
    have c4 : W1.cell? ⟨w.heap.size, 4, none⟩ = some (.int .i64 m.c) := HM1.out.cell 4
    have c5 : W1.cell? ⟨w.heap.size, 5, none⟩ = some (.int .i64 m.r) := HM1.out.cell 5
    have c6 : W1.cell? ⟨w.heap.size, 6, none⟩ = some (.int .i64 m.y) := HM1.out.cell 6
    have c7 : W1.cell? ⟨w.heap.size, 7, none⟩ = some (.int .i64 m.a) := HM1.out.cell 7
    have c8 : W1.cell? ⟨w.heap.size, 8, none⟩ = some (.bool m.t) := HM1.out.cell 8
    have c9 : W1.cell? ⟨w.heap.size, 9, none⟩ = some (.slice pl nl cl) := HM1.out.cell 9
    have c10 : W1.cell? ⟨w.heap.size, 10, none⟩ = some (.slice pn nn cn) := HM1.out.cell 10
    go_wp2_with fail
    refine (written_any m _ _ W1 (HLK.out _ HB1.out) (HNK.out _ HB1.out) HF.out HE1.out HE2.out).mono ?_
    rintro y W2 ⟨v2, rfl, ho2, hb2⟩
    obtain ⟨p2, q2, hv2⟩ := ho2.form
    generalize hl2 : (msgL m).length = n2 at *
    subst hv2
    have HO2 := Lib.hid ho2
    have HB2 := Lib.hid (HB1.out.trans (hb2.mono HB1.out.size))
    have HL2 := Lib.hid hl2
    clear ho2 hb2 hl2 c0 c1 c2 c3 c4 c5 c6 c7 c8 c9 c10
    go_wp2_with fail
    have HR := Lib.hid (Rows8.two W2 22 W2.heap.size rfl _ _ zs (msgL m) (HBK.out _ HB2.out) HO2.out.row)
    refine (concat8_any _ 0 2 _ _ _ _ HR.out rfl (by decide) (by have := HLEN.out; have := HBL.out; have := HL2.out; simp; omega)).mono ?_
    rintro y w2 ⟨v3, rfl, ho3, hb3⟩
    have HO3 := Lib.hid ho3
    have HB3 := Lib.hid hb3
    clear ho3 hb3
    go_wp2_with fail
    refine bodyPost_ret (results_tmp2 rfl _ _ _) rfl ?_
    have hs := HB2.out.size
    refine ⟨_, ret_ve HE.out.symm, ?_, (HB2.out.alloc hs _).trans (HB3.out.mono (by simp; omega))⟩
    rw [HWR.out]
    refine own_down (by simpa using HO3.out) ?_
    first | omega | (simp; omega)
  · have HWR : Hid (wrL zs m = []) := by show _ = _; unfold wrL; rw [if_neg hE]
    generalize hEE : msgE m = E at *
    have HEE := Lib.hid hEE
    clear hEE
    go_wp2_with fail
    refine bodyPost_ret (results_tmp2 rfl _ _ _) rfl ?_
    refine ⟨_, ret_ve HEE.out.symm, ?_, HB1.out⟩
    rw [HWR.out]
    exact Own.nil_ _ _ _ _
end Go.Proofs.Ytengkgpobckhjaa
