/- msg.written by contract. -/
import Derived.Test.YtbimbpmdiahhbaaMsgAdd
namespace Go.Proofs.Ytbimbpmdiahhbaa
open Go.RowKit
set_option linter.unusedSimpArgs false
/-- The state of written: the message in block g, the bytes so far by block bb. -/
structure WSt (g bb : Nat) (w : World) (C : Array Value) (wr : World) (v : Value) (zs : List Int) (N : Nat) : Prop where
  b : Bst wr bb v zs
  low : Below g w wr
  m : Blk wr g C 29
  len : zs.length ≤ N
theorem wst_add {g bb : Nat} {w wr : World} {C : Array Value} {v : Value} {zs : List Int} {N : Nat} (n : Int) (h : WSt g bb w C wr v zs N) (hgb : g < bb) (hn : I64 n) (hN : N ≤ 900000) :
    Calls Try.prog 35 #[.int .i64 n, .pointer (some ⟨bb, 0, none⟩)] wr fun e w' => e = .returned (.tuple #[]) ∧ ∃ v', WSt g bb w C w' v' (zs ++ numL n) (N + 10) ∧ Stp bb v v' wr w' := by
  refine (add_any n bb v zs wr h.b hn (by have := h.len; omega)).mono ?_
  rintro y w1 ⟨rfl, v', hb, hs⟩
  refine ⟨rfl, v', ⟨hb, h.low.trans (hs.low.mono (Nat.le_of_lt hgb)), h.m.below hs.low hgb, ?_⟩, hs⟩
  have h1 := h.len
  have h2 := numL_len hn.1 hn.2
  rw [List.length_append]
  omega
theorem WSt.below {g bb : Nat} {w wr wr' : World} {C : Array Value} {v : Value} {zs : List Int} {N : Nat} (h : WSt g bb w C wr v zs N) (hb : Below wr.heap.size wr wr') : WSt g bb w C wr' v zs N :=
  ⟨h.b.below hb, h.low.trans (hb.mono (Nat.le_of_lt h.m.lt)), h.m.below hb h.m.lt, h.len⟩
def sixL (m : Msg) (i : Nat) : List Int := ([m.s, m.n, m.b, m.c, m.r, m.y].take i).flatMap numL
def threeL (x : Lin) (i : Nat) : List Int := ([x.s, x.n, x.b].take i).flatMap numL
theorem flat_succ {α : Type} (f : α → List Int) (xs : List α) (k : Nat) (h : k < xs.length) : (xs.take k).flatMap f ++ f xs[k] = (xs.take (k + 1)).flatMap f := by
  rw [List.take_succ_eq_append_getElem h, List.flatMap_append]
  simp
theorem fit_line {m : Msg} (hF : m.Fit) (k : Nat) (h : k < m.ls.length) : m.ls[k].Fit := hF.2.1 _ (List.getElem_mem h)
set_option maxHeartbeats 8000000 in
set_option maxRecDepth 100000 in
theorem written_any (m : Msg) (vl vn : Value) (w : World) (hl : TRow encN w vl m.ls) (hn : Row .i64 w vn m.ns) (hF : m.Fit) (bl : m.ls.length ≤ 1024) (bn : m.ns.length ≤ 8) : Calls Try.prog 16 #[.agg #[.int .i64 m.k, .int .i64 m.s, .int .i64 m.n, .int .i64 m.b, .int .i64 m.c, .int .i64 m.r, .int .i64 m.y, .int .i64 m.a, .bool m.t, vl, vn]] w fun e w' => ∃ v, e = .returned v ∧ Own .u8 w' w.heap.size 5 v (msgL m) ∧ Below w.heap.size w w' := by
  obtain ⟨pl, cl, rfl⟩ := hl.shape
  obtain ⟨pn, cn, rfl⟩ := hn.shape
  have HL := Lib.hid hl
  have HN := Lib.hid hn
  have HF := Lib.hid hF
  clear hl hn hF
  generalize hll : m.ls.length = nl at *
  generalize hnl : m.ns.length = nn at *
  have HLL := Lib.hid hll
  have HNN := Lib.hid hnl
  clear hll hnl
  obtain ⟨C, hC⟩ : ∃ C : Array Value, #[.int .i64 m.k, .int .i64 m.s, .int .i64 m.n, .int .i64 m.b, .int .i64 m.c, .int .i64 m.r, .int .i64 m.y, .int .i64 m.a, .bool m.t, .slice pl nl cl, .slice pn nn cn] = C := ⟨_, rfl⟩
  have HC0 : Hid (C[0]? = some (.int .i64 m.k)) := by show _ = _; rw [← hC]; rfl
  have HC1 : Hid (C[1]? = some (.int .i64 m.s)) := by show _ = _; rw [← hC]; rfl
  have HC2 : Hid (C[2]? = some (.int .i64 m.n)) := by show _ = _; rw [← hC]; rfl
  have HC3 : Hid (C[3]? = some (.int .i64 m.b)) := by show _ = _; rw [← hC]; rfl
  have HC4 : Hid (C[4]? = some (.int .i64 m.c)) := by show _ = _; rw [← hC]; rfl
  have HC5 : Hid (C[5]? = some (.int .i64 m.r)) := by show _ = _; rw [← hC]; rfl
  have HC6 : Hid (C[6]? = some (.int .i64 m.y)) := by show _ = _; rw [← hC]; rfl
  have HC7 : Hid (C[7]? = some (.int .i64 m.a)) := by show _ = _; rw [← hC]; rfl
  have HC8 : Hid (C[8]? = some (.bool m.t)) := by show _ = _; rw [← hC]; rfl
  have HC9 : Hid (C[9]? = some (.slice pl nl cl)) := by show _ = _; rw [← hC]; rfl
  have HC10 : Hid (C[10]? = some (.slice pn nn cn)) := by show _ = _; rw [← hC]; rfl
  have HCC := Lib.hid hC
  clear hC
  have HPOST : Hid (∀ (v : Value) (w' : World) (bb : Nat) (N : Nat), w.heap.size < bb → WSt w.heap.size bb w C w' v (msgL m) N → ∃ v', v = v' ∧ Own .u8 w' w.heap.size 5 v' (msgL m) ∧ Below w.heap.size w w') :=
    fun v w' bb N hg h => ⟨v, rfl, own_down h.b.2 (by omega), h.low⟩
  go_enter Try.func16, Try.ntmps16
  go_wp2_with fail
  have HS0 : Hid (WSt w.heap.size (w.heap.size + 1) w C ((w.alloc (.cells #[.int .i64 m.k, .int .i64 m.s, .int .i64 m.n, .int .i64 m.b, .int .i64 m.c, .int .i64 m.r, .int .i64 m.y, .int .i64 m.a, .bool m.t, .slice pl nl cl, .slice pn nn cn] 29)).alloc (.cells #[.slice none 0 0] 22)) (.slice none 0 0) [] 0) := by
    have b1 := Blk.new w (#[.int .i64 m.k, .int .i64 m.s, .int .i64 m.n, .int .i64 m.b, .int .i64 m.c, .int .i64 m.r, .int .i64 m.y, .int .i64 m.a, .bool m.t, .slice pl nl cl, .slice pn nn cn]) 29
    have s1 : (w.alloc (.cells #[.int .i64 m.k, .int .i64 m.s, .int .i64 m.n, .int .i64 m.b, .int .i64 m.c, .int .i64 m.r, .int .i64 m.y, .int .i64 m.a, .bool m.t, .slice pl nl cl, .slice pn nn cn] 29)).heap.size = w.heap.size + 1 := by simp
    refine ⟨⟨?_, Own.nil_ _ _ _ _⟩, (oneB w _).trans ((oneB _ _).mono (by omega)), by rw [← HCC.out]; exact b1.alloc _, Nat.le_refl _⟩
    rw [← s1]
    exact Blk.new _ _ _
  generalize hW0 : (w.alloc (.cells #[.int .i64 m.k, .int .i64 m.s, .int .i64 m.n, .int .i64 m.b, .int .i64 m.c, .int .i64 m.r, .int .i64 m.y, .int .i64 m.a, .bool m.t, .slice pl nl cl, .slice pn nn cn] 29)).alloc (.cells #[.slice none 0 0] 22) = W0 at *
  have hgb : w.heap.size < w.heap.size + 1 := Nat.lt_succ_self _
  generalize hbb : w.heap.size + 1 = bb at *
  have HG := Lib.hid hgb
  have HPO := Lib.hid (fun (v : Value) (w' : World) (N : Nat) h => HPOST.out v w' bb N hgb h)
  clear hgb hbb hW0 HPOST HCC
  have HLK := Lib.hid (fun (w' : World) (h : Below w.heap.size w w') => HL.out.kept h)
  have HNK := Lib.hid (fun (w' : World) (h : Below w.heap.size w w') => HN.out.kept h)
  clear HL HN
  generalize hg : w.heap.size = g at *
  have HGG := Lib.hid hg
  clear hg
  have c0 : W0.cell? ⟨g, 0, none⟩ = some (.int .i64 m.k) := (HS0.out.m.cell 0).trans HC0.out
  go_wp2_with fail
  refine (wst_add m.k HS0.out HG.out HF.out.1.1 (by decide)).mono ?_
  rintro y W1 ⟨rfl, v1, hs1, _⟩
  rw [List.nil_append] at hs1
  have HS1 := Lib.hid hs1
  clear c0 hs1 HS0
  go_wp2_with fail
  refine (mnums_any g W1).mono ?_
  rintro y W2 ⟨rfl, hb2⟩
  have HS2 : Hid (WSt g bb w C W2 v1 (numL m.k ++ sixL m 0) 10) := by
    have h := HS1.out.below hb2
    have e : numL m.k ++ sixL m 0 = numL m.k := by simp [sixL]
    show WSt _ _ _ _ _ _ _ _
    rw [e]; exact h
  clear hb2 HS1
  go_wp2_with fail
  go_loopw [19] (fun i wr => ∃ k : Nat, k ≤ 6 ∧ i = .int .i64 k ∧ Hid (∃ v, WSt g bb w C wr v (numL m.k ++ sixL m k) (10 + 10 * k))) (fun i _ => 6 - (intOf i).toNat)
  case atStart => exact ⟨0, by omega, rfl, ⟨_, HS2.out⟩⟩
  case round =>
    obtain ⟨k, hk, rfl, HR⟩ := hrel
    obtain ⟨vk, hs⟩ := HR.out
    have HS := Lib.hid hs
    clear HR hs HS2
    match k, hk with
    | 0, _ =>
      rw [show (((0 : Nat) : Int)) = (0 : Int) from rfl]
      have hix : (Instr.index 60 (.agg #[.pointer (some ⟨g, 1, none⟩), .pointer (some ⟨g, 2, none⟩), .pointer (some ⟨g, 3, none⟩), .pointer (some ⟨g, 4, none⟩), .pointer (some ⟨g, 5, none⟩), .pointer (some ⟨g, 6, none⟩)]) (.int .i64 0)).run Try.prog wr = .ok (.pointer (some ⟨g, 1, none⟩)) wr := by simp [Instr.index, go_sem]
      have ci : wr.cell? ⟨g, 1, none⟩ = some (.int .i64 m.s) := (HS.out.m.cell 1).trans HC1.out
      go_wp2_with fail
      refine (wst_add m.s HS.out HG.out HF.out.1.2.1 (by decide)).mono ?_
      rintro y W3 ⟨rfl, v3, hs3, _⟩
      have HS3 : Hid (WSt g bb w C W3 v3 (numL m.k ++ sixL m 1) (10 + 10 * 1)) := by
        have e : numL m.k ++ sixL m 1 = numL m.k ++ sixL m 0 ++ numL m.s := by simp [sixL]
        show WSt _ _ _ _ _ _ _ _
        rw [e]; exact hs3
      clear ci hs3
      go_wp2_with fail
      go_roundw
      case rel => exact ⟨1, by omega, by go_num, ⟨_, HS3.out⟩⟩
      case measure => simp [intOf]
    | 1, _ =>
      rw [show (((1 : Nat) : Int)) = (1 : Int) from rfl]
      have hix : (Instr.index 60 (.agg #[.pointer (some ⟨g, 1, none⟩), .pointer (some ⟨g, 2, none⟩), .pointer (some ⟨g, 3, none⟩), .pointer (some ⟨g, 4, none⟩), .pointer (some ⟨g, 5, none⟩), .pointer (some ⟨g, 6, none⟩)]) (.int .i64 1)).run Try.prog wr = .ok (.pointer (some ⟨g, 2, none⟩)) wr := by simp [Instr.index, go_sem]
      have ci : wr.cell? ⟨g, 2, none⟩ = some (.int .i64 m.n) := (HS.out.m.cell 2).trans HC2.out
      go_wp2_with fail
      refine (wst_add m.n HS.out HG.out HF.out.1.2.2.1 (by decide)).mono ?_
      rintro y W3 ⟨rfl, v3, hs3, _⟩
      have HS3 : Hid (WSt g bb w C W3 v3 (numL m.k ++ sixL m 2) (10 + 10 * 2)) := by
        have e : numL m.k ++ sixL m 2 = numL m.k ++ sixL m 1 ++ numL m.n := by simp [sixL]
        show WSt _ _ _ _ _ _ _ _
        rw [e]; exact hs3
      clear ci hs3
      go_wp2_with fail
      go_roundw
      case rel => exact ⟨2, by omega, by go_num, ⟨_, HS3.out⟩⟩
      case measure => simp [intOf]
    | 2, _ =>
      rw [show (((2 : Nat) : Int)) = (2 : Int) from rfl]
      have hix : (Instr.index 60 (.agg #[.pointer (some ⟨g, 1, none⟩), .pointer (some ⟨g, 2, none⟩), .pointer (some ⟨g, 3, none⟩), .pointer (some ⟨g, 4, none⟩), .pointer (some ⟨g, 5, none⟩), .pointer (some ⟨g, 6, none⟩)]) (.int .i64 2)).run Try.prog wr = .ok (.pointer (some ⟨g, 3, none⟩)) wr := by simp [Instr.index, go_sem]
      have ci : wr.cell? ⟨g, 3, none⟩ = some (.int .i64 m.b) := (HS.out.m.cell 3).trans HC3.out
      go_wp2_with fail
      refine (wst_add m.b HS.out HG.out HF.out.1.2.2.2.1 (by decide)).mono ?_
      rintro y W3 ⟨rfl, v3, hs3, _⟩
      have HS3 : Hid (WSt g bb w C W3 v3 (numL m.k ++ sixL m 3) (10 + 10 * 3)) := by
        have e : numL m.k ++ sixL m 3 = numL m.k ++ sixL m 2 ++ numL m.b := by simp [sixL]
        show WSt _ _ _ _ _ _ _ _
        rw [e]; exact hs3
      clear ci hs3
      go_wp2_with fail
      go_roundw
      case rel => exact ⟨3, by omega, by go_num, ⟨_, HS3.out⟩⟩
      case measure => simp [intOf]
    | 3, _ =>
      rw [show (((3 : Nat) : Int)) = (3 : Int) from rfl]
      have hix : (Instr.index 60 (.agg #[.pointer (some ⟨g, 1, none⟩), .pointer (some ⟨g, 2, none⟩), .pointer (some ⟨g, 3, none⟩), .pointer (some ⟨g, 4, none⟩), .pointer (some ⟨g, 5, none⟩), .pointer (some ⟨g, 6, none⟩)]) (.int .i64 3)).run Try.prog wr = .ok (.pointer (some ⟨g, 4, none⟩)) wr := by simp [Instr.index, go_sem]
      have ci : wr.cell? ⟨g, 4, none⟩ = some (.int .i64 m.c) := (HS.out.m.cell 4).trans HC4.out
      go_wp2_with fail
      refine (wst_add m.c HS.out HG.out HF.out.1.2.2.2.2.1 (by decide)).mono ?_
      rintro y W3 ⟨rfl, v3, hs3, _⟩
      have HS3 : Hid (WSt g bb w C W3 v3 (numL m.k ++ sixL m 4) (10 + 10 * 4)) := by
        have e : numL m.k ++ sixL m 4 = numL m.k ++ sixL m 3 ++ numL m.c := by simp [sixL]
        show WSt _ _ _ _ _ _ _ _
        rw [e]; exact hs3
      clear ci hs3
      go_wp2_with fail
      go_roundw
      case rel => exact ⟨4, by omega, by go_num, ⟨_, HS3.out⟩⟩
      case measure => simp [intOf]
    | 4, _ =>
      rw [show (((4 : Nat) : Int)) = (4 : Int) from rfl]
      have hix : (Instr.index 60 (.agg #[.pointer (some ⟨g, 1, none⟩), .pointer (some ⟨g, 2, none⟩), .pointer (some ⟨g, 3, none⟩), .pointer (some ⟨g, 4, none⟩), .pointer (some ⟨g, 5, none⟩), .pointer (some ⟨g, 6, none⟩)]) (.int .i64 4)).run Try.prog wr = .ok (.pointer (some ⟨g, 5, none⟩)) wr := by simp [Instr.index, go_sem]
      have ci : wr.cell? ⟨g, 5, none⟩ = some (.int .i64 m.r) := (HS.out.m.cell 5).trans HC5.out
      go_wp2_with fail
      refine (wst_add m.r HS.out HG.out HF.out.1.2.2.2.2.2.1 (by decide)).mono ?_
      rintro y W3 ⟨rfl, v3, hs3, _⟩
      have HS3 : Hid (WSt g bb w C W3 v3 (numL m.k ++ sixL m 5) (10 + 10 * 5)) := by
        have e : numL m.k ++ sixL m 5 = numL m.k ++ sixL m 4 ++ numL m.r := by simp [sixL]
        show WSt _ _ _ _ _ _ _ _
        rw [e]; exact hs3
      clear ci hs3
      go_wp2_with fail
      go_roundw
      case rel => exact ⟨5, by omega, by go_num, ⟨_, HS3.out⟩⟩
      case measure => simp [intOf]
    | 5, _ =>
      rw [show (((5 : Nat) : Int)) = (5 : Int) from rfl]
      have hix : (Instr.index 60 (.agg #[.pointer (some ⟨g, 1, none⟩), .pointer (some ⟨g, 2, none⟩), .pointer (some ⟨g, 3, none⟩), .pointer (some ⟨g, 4, none⟩), .pointer (some ⟨g, 5, none⟩), .pointer (some ⟨g, 6, none⟩)]) (.int .i64 5)).run Try.prog wr = .ok (.pointer (some ⟨g, 6, none⟩)) wr := by simp [Instr.index, go_sem]
      have ci : wr.cell? ⟨g, 6, none⟩ = some (.int .i64 m.y) := (HS.out.m.cell 6).trans HC6.out
      go_wp2_with fail
      refine (wst_add m.y HS.out HG.out HF.out.1.2.2.2.2.2.2.1 (by decide)).mono ?_
      rintro y W3 ⟨rfl, v3, hs3, _⟩
      have HS3 : Hid (WSt g bb w C W3 v3 (numL m.k ++ sixL m 6) (10 + 10 * 6)) := by
        have e : numL m.k ++ sixL m 6 = numL m.k ++ sixL m 5 ++ numL m.y := by simp [sixL]
        show WSt _ _ _ _ _ _ _ _
        rw [e]; exact hs3
      clear ci hs3
      go_wp2_with fail
      go_roundw
      case rel => exact ⟨6, by omega, by go_num, ⟨_, HS3.out⟩⟩
      case measure => simp [intOf]
    | 6, _ =>
      have c7 : wr.cell? ⟨g, 7, none⟩ = some (.int .i64 m.a) := (HS.out.m.cell 7).trans HC7.out
      go_wp2_with fail
      refine (wst_add m.a HS.out HG.out HF.out.1.2.2.2.2.2.2.2 (by decide)).mono ?_
      rintro y W3 ⟨rfl, v3, hs3, _⟩
      have c8 : W3.cell? ⟨g, 8, none⟩ = some (.bool m.t) := (hs3.m.cell 8).trans HC8.out
      obtain ⟨p3, q3, hv3⟩ := hs3.b.2.form
      generalize (numL m.k ++ sixL m 6 ++ numL m.a).length = n3 at hv3
      subst hv3
      have cb : W3.cell? ⟨bb, 0, none⟩ = some (.slice p3 n3 q3) := hs3.b.1.cell 0
      have HS3 := Lib.hid hs3
      clear c7 hs3 HS
      go_wp2_with fail
      refine (wbool_any (.slice p3 n3 q3) _ m.t W3 HS3.out.b.2.row (by have := HS3.out.len; omega)).mono ?_
      rintro y W4 ⟨v4, rfl, ho4, hb4⟩
      obtain ⟨p4, q4, hv4⟩ := ho4.form
      have e4 : (numL m.k ++ sixL m 6 ++ numL m.a ++ [bitI m.t]).length = (numL m.k ++ sixL m 6 ++ numL m.a).length + 1 := by rw [List.length_append]; rfl
      have hs4 := HS3.out.below hb4
      have hbb4 := hs4.b.1.lt
      have hf4 := hs4.b.1.free 0
      have hcb4 := hs4.b.1.cell 0
      have HS4 : Hid (WSt g bb w C (W4.setCell ⟨bb, 0, none⟩ v4) v4 (numL m.k ++ sixL m 6 ++ numL m.a ++ [bitI m.t]) 90) := by
        have hne : v4.ownBlock ≠ some bb := fun e => by have := ho4.block_ge bb e; have := HS3.out.b.1.lt; omega
        refine ⟨⟨hs4.b.1.set 0 _, own_down (ho4.chgV ((Chg.refl bb W4).set 0 _) hne) (by have := HS3.out.b.1.lt; omega)⟩, hs4.low.setCell (p := ⟨bb, 0, none⟩) (Nat.le_of_lt HG.out) _, hs4.m.setOther (a := ⟨bb, 0, none⟩) (fun e => by have := HG.out; simp at e; omega) _, ?_⟩
        rw [e4]; have := HS3.out.len; omega
      clear hs4 ho4 hb4 HS3 e4
      generalize (numL m.k ++ sixL m 6 ++ numL m.a ++ [bitI m.t]).length = n4 at hv4
      subst hv4
      have c9 : (W4.setCell ⟨bb, 0, none⟩ (.slice p4 n4 q4)).cell? ⟨g, 9, none⟩ = some (.slice pl nl cl) := (HS4.out.m.cell 9).trans HC9.out
      go_wp2_with fail
      generalize hW5 : W4.setCell ⟨bb, 0, none⟩ (.slice p4 n4 q4) = W5 at *
      clear hW5 hbb4 hf4 hcb4 c8 cb c9
      refine (wst_add (nl : Int) HS4.out HG.out (by unfold I64; omega) (by decide)).mono ?_
      rintro y W6 ⟨rfl, v6, hs6, _⟩
      have c9 : W6.cell? ⟨g, 9, none⟩ = some (.slice pl nl cl) := (hs6.m.cell 9).trans HC9.out
      obtain ⟨P, hP⟩ : ∃ P, numL m.k ++ sixL m 6 ++ numL m.a ++ [bitI m.t] ++ numL (nl : Int) = P := ⟨_, rfl⟩
      rw [hP] at hs6
      have HPP := Lib.hid hP
      have HS6 : Hid (WSt g bb w C W6 v6 (P ++ (m.ls.take 0).flatMap linL) 100) := by
        show WSt _ _ _ _ _ _ _ _
        simpa using hs6
      clear hs6 HS4 hP
      go_wp2_with fail
      go_loopw [44] (fun i wr => ∃ k : Nat, k ≤ nl ∧ i = .int .i64 k ∧ Hid (∃ v, WSt g bb w C wr v (P ++ (m.ls.take k).flatMap linL) (100 + 40 * k))) (fun i _ => nl - (intOf i).toNat)
      case atStart => exact ⟨0, by omega, rfl, ⟨_, HS6.out⟩⟩
      case round =>
        obtain ⟨k, hk, rfl, HR⟩ := hrel
        obtain ⟨vk, hs⟩ := HR.out
        have HS := Lib.hid hs
        clear HR hs HS6 c9
        by_cases hlt : k < nl
        · have hltI : (k : Int) < (nl : Int) := by omega
          have hkl : k < m.ls.length := by rw [HLL.out]; exact hlt
          obtain ⟨b, o, rfl, hbl, hcs⟩ := (HLK.out _ HS.out.low).at_ k hkl
          obtain ⟨x, hx⟩ : ∃ x, m.ls[k] = x := ⟨_, rfl⟩
          have HX := Lib.hid hx
          have HXF : Hid x.Fit := by have := fit_line HF.out k hkl; rw [hx] at this; exact this
          rw [hx] at hcs
          clear hx
          have c0 : wr.cell? ⟨b, o + k * 4, none⟩ = some (.int .i64 x.s) := hcs 0 (by decide)
          have c1 : wr.cell? ⟨b, o + k * 4 + 1, none⟩ = some (.int .i64 x.n) := hcs 1 (by decide)
          have c2 : wr.cell? ⟨b, o + k * 4 + 2, none⟩ = some (.int .i64 x.b) := hcs 2 (by decide)
          have c3 : wr.cell? ⟨b, o + k * 4 + 3, none⟩ = some (.int .i64 x.a) := hcs 3 (by decide)
          clear hcs
          go_wp2_with fail
          have HQ0 := Lib.hid (Blk.new wr #[.int .i64 x.s, .int .i64 x.n, .int .i64 x.b, .int .i64 x.a] 49)
          have HS7 := Lib.hid (HS.out.below (oneB wr (.cells #[.int .i64 x.s, .int .i64 x.n, .int .i64 x.b, .int .i64 x.a] 49)))
          have HQF : Hid (wr.heap.size ≠ bb ∧ vk.ownBlock ≠ some wr.heap.size) := ⟨fun e => by have := HS.out.b.1.lt; omega, fun e => by have := HS.out.b.2.lt _ e; omega⟩
          generalize hW7 : wr.alloc (.cells #[.int .i64 x.s, .int .i64 x.n, .int .i64 x.b, .int .i64 x.a] 49) = W7 at *
          generalize hq : wr.heap.size = q at *
          clear hW7 hq c0 c1 c2 c3 HS
          go_wp2_with fail
          refine (lnumbers_any q W7).mono ?_
          rintro y W8 ⟨rfl, hb8⟩
          have HQ8 := Lib.hid (HQ0.out.below hb8 HQ0.out.lt)
          have HS8 : Hid (WSt g bb w C W8 vk (P ++ (m.ls.take k).flatMap linL ++ threeL x 0) (100 + 40 * k)) := by
            have h := HS7.out.below hb8
            show WSt _ _ _ _ _ _ _ _
            simpa [threeL] using h
          clear hb8 HS7 HQ0
          go_wp2_with fail
          go_loopw [49] (fun i wr => ∃ j : Nat, j ≤ 3 ∧ i = .int .i64 j ∧ Hid (∃ v, WSt g bb w C wr v (P ++ (m.ls.take k).flatMap linL ++ threeL x j) (100 + 40 * k + 10 * j) ∧ Blk wr q #[.int .i64 x.s, .int .i64 x.n, .int .i64 x.b, .int .i64 x.a] 49 ∧ v.ownBlock ≠ some q)) (fun i _ => 3 - (intOf i).toNat)
          case atStart => exact ⟨0, by omega, rfl, ⟨_, HS8.out, HQ8.out, HQF.out.2⟩⟩
          case round =>
            obtain ⟨j, hj, rfl, HR⟩ := hrel
            obtain ⟨vj, hs, hq1, hq2⟩ := HR.out
            have HS := Lib.hid hs
            have HQ1 := Lib.hid hq1
            have HQ2 := Lib.hid hq2
            clear HR hs hq1 hq2 HS8 HQ8
            match j, hj with
            | 0, _ =>
              rw [show (((0 : Nat) : Int)) = (0 : Int) from rfl]
              have hix : (Instr.index 64 (.agg #[.pointer (some ⟨q, 0, none⟩), .pointer (some ⟨q, 1, none⟩), .pointer (some ⟨q, 2, none⟩)]) (.int .i64 0)).run Try.prog wr = .ok (.pointer (some ⟨q, 0, none⟩)) wr := by simp [Instr.index, go_sem]
              have ci : wr.cell? ⟨q, 0, none⟩ = some (.int .i64 x.s) := HQ1.out.cell 0
              go_wp2_with fail
              refine (wst_add x.s HS.out HG.out HXF.out.1 (by omega)).mono ?_
              rintro y W9 ⟨rfl, v9, hs9, hst⟩
              obtain ⟨hqa, hqb⟩ := hst.blk HQ1.out HQF.out.1 HQ2.out
              have HS9 : Hid (WSt g bb w C W9 v9 (P ++ (m.ls.take k).flatMap linL ++ threeL x 1) (100 + 40 * k + 10 * 1)) := by
                have e : P ++ (m.ls.take k).flatMap linL ++ threeL x 1 = P ++ (m.ls.take k).flatMap linL ++ threeL x 0 ++ numL x.s := by simp [threeL]
                show WSt _ _ _ _ _ _ _ _
                rw [e]; exact hs9
              have HQA := Lib.hid hqa
              have HQB := Lib.hid hqb
              clear ci hs9 hst hqa hqb
              go_wp2_with fail
              go_roundw
              case rel => exact ⟨1, by omega, by go_num, ⟨_, HS9.out, HQA.out, HQB.out⟩⟩
              case measure => simp [intOf]
            | 1, _ =>
              rw [show (((1 : Nat) : Int)) = (1 : Int) from rfl]
              have hix : (Instr.index 64 (.agg #[.pointer (some ⟨q, 0, none⟩), .pointer (some ⟨q, 1, none⟩), .pointer (some ⟨q, 2, none⟩)]) (.int .i64 1)).run Try.prog wr = .ok (.pointer (some ⟨q, 1, none⟩)) wr := by simp [Instr.index, go_sem]
              have ci : wr.cell? ⟨q, 1, none⟩ = some (.int .i64 x.n) := HQ1.out.cell 1
              go_wp2_with fail
              refine (wst_add x.n HS.out HG.out HXF.out.2.1 (by omega)).mono ?_
              rintro y W9 ⟨rfl, v9, hs9, hst⟩
              obtain ⟨hqa, hqb⟩ := hst.blk HQ1.out HQF.out.1 HQ2.out
              have HS9 : Hid (WSt g bb w C W9 v9 (P ++ (m.ls.take k).flatMap linL ++ threeL x 2) (100 + 40 * k + 10 * 2)) := by
                have e : P ++ (m.ls.take k).flatMap linL ++ threeL x 2 = P ++ (m.ls.take k).flatMap linL ++ threeL x 1 ++ numL x.n := by simp [threeL]
                show WSt _ _ _ _ _ _ _ _
                rw [e]; exact hs9
              have HQA := Lib.hid hqa
              have HQB := Lib.hid hqb
              clear ci hs9 hst hqa hqb
              go_wp2_with fail
              go_roundw
              case rel => exact ⟨2, by omega, by go_num, ⟨_, HS9.out, HQA.out, HQB.out⟩⟩
              case measure => simp [intOf]
            | 2, _ =>
              rw [show (((2 : Nat) : Int)) = (2 : Int) from rfl]
              have hix : (Instr.index 64 (.agg #[.pointer (some ⟨q, 0, none⟩), .pointer (some ⟨q, 1, none⟩), .pointer (some ⟨q, 2, none⟩)]) (.int .i64 2)).run Try.prog wr = .ok (.pointer (some ⟨q, 2, none⟩)) wr := by simp [Instr.index, go_sem]
              have ci : wr.cell? ⟨q, 2, none⟩ = some (.int .i64 x.b) := HQ1.out.cell 2
              go_wp2_with fail
              refine (wst_add x.b HS.out HG.out HXF.out.2.2.1 (by omega)).mono ?_
              rintro y W9 ⟨rfl, v9, hs9, hst⟩
              obtain ⟨hqa, hqb⟩ := hst.blk HQ1.out HQF.out.1 HQ2.out
              have HS9 : Hid (WSt g bb w C W9 v9 (P ++ (m.ls.take k).flatMap linL ++ threeL x 3) (100 + 40 * k + 10 * 3)) := by
                have e : P ++ (m.ls.take k).flatMap linL ++ threeL x 3 = P ++ (m.ls.take k).flatMap linL ++ threeL x 2 ++ numL x.b := by simp [threeL]
                show WSt _ _ _ _ _ _ _ _
                rw [e]; exact hs9
              have HQA := Lib.hid hqa
              have HQB := Lib.hid hqb
              clear ci hs9 hst hqa hqb
              go_wp2_with fail
              go_roundw
              case rel => exact ⟨3, by omega, by go_num, ⟨_, HS9.out, HQA.out, HQB.out⟩⟩
              case measure => simp [intOf]
            | 3, _ =>
              have ci : wr.cell? ⟨q, 3, none⟩ = some (.int .i64 x.a) := HQ1.out.cell 3
              go_wp2_with fail
              refine (wst_add x.a HS.out HG.out HXF.out.2.2.2 (by omega)).mono ?_
              rintro y W9 ⟨rfl, v9, hs9, _⟩
              have HS9 : Hid (WSt g bb w C W9 v9 (P ++ (m.ls.take (k + 1)).flatMap linL) (100 + 40 * (k + 1))) := by
                have e : P ++ (m.ls.take (k + 1)).flatMap linL = P ++ (m.ls.take k).flatMap linL ++ threeL x 3 ++ numL x.a := by
                  rw [← flat_succ linL m.ls k hkl, HX.out]
                  simp [threeL, linL]
                have e2 : 100 + 40 * (k + 1) = 100 + 40 * k + 10 * 3 + 10 := by omega
                show WSt _ _ _ _ _ _ _ _
                rw [e, e2]; exact hs9
              clear ci hs9
              go_wp2_with fail
              go_roundw
              case rel => exact ⟨k + 1, by omega, by go_num, ⟨_, HS9.out⟩⟩
              case measure => simp [intOf]; omega
        · have hle : (nl : Int) ≤ (k : Int) := by omega
          have HP2 : Hid (P ++ (m.ls.take k).flatMap linL = P ++ m.ls.flatMap linL) := by
            have e : m.ls.take k = m.ls := List.take_of_length_le (by rw [HLL.out]; omega)
            show _ = _
            rw [e]
          have c10 : wr.cell? ⟨g, 10, none⟩ = some (.slice pn nn cn) := (HS.out.m.cell 10).trans HC10.out
          go_wp2_with fail
          refine (wst_add (nn : Int) HS.out HG.out (by unfold I64; omega) (by omega)).mono ?_
          rintro y W9 ⟨rfl, v9, hs9, _⟩
          have c10 : W9.cell? ⟨g, 10, none⟩ = some (.slice pn nn cn) := (hs9.m.cell 10).trans HC10.out
          have HLEN : Hid (100 + 40 * k + 10 ≤ 50000) := by show _ ≤ _; omega
          generalize 100 + 40 * k + 10 = N9 at *
          rw [HP2.out] at hs9
          obtain ⟨Q, hQ⟩ : ∃ Q, P ++ m.ls.flatMap linL ++ numL (nn : Int) = Q := ⟨_, rfl⟩
          rw [hQ] at hs9
          have HQQ := Lib.hid hQ
          have HS9 : Hid (WSt g bb w C W9 v9 (Q ++ (m.ns.take 0).flatMap numL) (N9 + 10 * 0)) := by
            show WSt _ _ _ _ _ _ _ _
            simpa using hs9
          clear hs9 hQ HS HP2
          go_wp2_with fail
          go_loopw [71] (fun i wr => ∃ j : Nat, j ≤ nn ∧ i = .int .i64 j ∧ Hid (∃ v, WSt g bb w C wr v (Q ++ (m.ns.take j).flatMap numL) (N9 + 10 * j))) (fun i _ => nn - (intOf i).toNat)
          case atStart => exact ⟨0, by omega, rfl, ⟨_, HS9.out⟩⟩
          case round =>
            obtain ⟨j, hj, rfl, HR⟩ := hrel
            obtain ⟨vj, hs⟩ := HR.out
            have HS := Lib.hid hs
            clear HR hs HS9 c10
            by_cases hlt : j < nn
            · have hltI : (j : Int) < (nn : Int) := by omega
              have hjl : j < m.ns.length := by rw [HNN.out]; exact hlt
              obtain ⟨b, o, rfl, hcj⟩ : ∃ b o, pn = some ⟨b, o, none⟩ ∧ wr.cell? ⟨b, o + j, none⟩ = some (.int .i64 (m.ns.getD j 0)) := by
                obtain ⟨p', c', e1, _, h⟩ := HNK.out _ HS.out.low
                cases e1
                rcases h with h | ⟨b, o, hp, h⟩
                · rw [h] at hjl; simp at hjl
                · exact ⟨b, o, hp, h j hjl⟩
              have HZ : Hid (m.ns.getD j 0 = m.ns[j]) := by
                show _ = _
                rw [List.getD_eq_getElem?_getD, List.getElem?_eq_getElem hjl]; rfl
              have HZF : Hid (I64 (m.ns.getD j 0)) := by
                have := HF.out.2.2 _ (List.getElem_mem hjl)
                show I64 _
                rw [HZ.out]; exact this
              generalize m.ns.getD j 0 = z at *
              go_wp2_with fail
              refine (wst_add z HS.out HG.out HZF.out (by have := HLEN.out; omega)).mono ?_
              rintro y W11 ⟨rfl, v11, hs11, _⟩
              have HS11 : Hid (WSt g bb w C W11 v11 (Q ++ (m.ns.take (j + 1)).flatMap numL) (N9 + 10 * (j + 1))) := by
                have e : Q ++ (m.ns.take (j + 1)).flatMap numL = Q ++ (m.ns.take j).flatMap numL ++ numL z := by
                  rw [← flat_succ numL m.ns j hjl, HZ.out]
                  simp
                show WSt _ _ _ _ _ _ _ _
                rw [e, show N9 + 10 * (j + 1) = N9 + 10 * j + 10 by omega]; exact hs11
              clear hcj hs11 HS
              go_wp2_with fail
              go_roundw
              case rel => exact ⟨j + 1, by omega, by go_num, ⟨_, HS11.out⟩⟩
              case measure => simp [intOf]; omega
            · have hle2 : (nn : Int) ≤ (j : Int) := by omega
              have cb : wr.cell? ⟨bb, 0, none⟩ = some vj := HS.out.b.1.cell 0
              have hEND : Hid (WSt g bb w C wr vj (msgL m) (N9 + 10 * j)) := by
                have e0 : m.ns.take j = m.ns := List.take_of_length_le (by rw [HNN.out]; omega)
                have e : msgL m = Q ++ (m.ns.take j).flatMap numL := by
                  rw [e0, ← HQQ.out, ← HPP.out, ← HLL.out, ← HNN.out]
                  unfold msgL msgL2 msgL3 sixL boL bitI
                  simp
                show WSt _ _ _ _ _ _ _ _
                rw [e]; exact HS.out
              clear HS
              go_wp2_with fail
              go_ret
              obtain ⟨v', e, h1, h2⟩ := HPO.out _ _ _ hEND.out
              subst e
              rw [HGG.out]
              exact ⟨_, rfl, h1, h2⟩
end Go.Proofs.Ytbimbpmdiahhbaa
