/- Vector.with by contract. -/
import Derived.Test.YtillckkohdjkbaaVecFind
namespace Go.Proofs.Ytillckkohdjkbaa
open Go.RowKit
/-- What stands behind a place of a slice. -/
theorem PRow.tail {w : World} {p P : Option Addr} {n c c' N : Nat} {ps : List Pos} (h : PRow w (.slice p n c) ps) (m : Nat) (hm : m ≤ ps.length) (hN : N = ps.length - m) (hc : N ≤ c') (hP : ∀ b o, p = some ⟨b, o, none⟩ → m < ps.length → P = some ⟨b, o + m * 3, none⟩) : PRow w (.slice P N c') (ps.drop m) := by
  subst hN
  obtain ⟨p', c2, e, _, h⟩ := h
  cases e
  have hl : (ps.drop m).length = ps.length - m := List.length_drop
  refine ⟨_, _, by rw [hl], by omega, ?_⟩
  by_cases hz : m < ps.length
  · rcases h with h | ⟨b, o, hp, hlt, h⟩
    · subst h; simp at hz
    · refine .inr ⟨b, _, hP b o hp hz, hlt, fun i hi => ?_⟩
      rw [List.getElem_drop]
      rw [show o + m * 3 + i * 3 = o + (m + i) * 3 by omega]
      exact h (m + i) (by omega)
  · left; exact List.drop_eq_nil_of_le (by omega)
theorem rows_two (w : World) (va vb : Value) (A B : List Pos) (hA : PRow w va A) (hB : PRow w vb B) (T : TypeId) (b : Nat) (hb : b = w.heap.size) : RowsP (w.alloc (.cells #[va, vb] T)) b 0 [va, vb] [A, B] := by
  subst hb
  refine ⟨rfl, fun i hi => ?_⟩
  match i, hi with
  | 0, _ => exact ⟨(Blk.new w #[va, vb] T).cell 0, hA.kept (oneB w _)⟩
  | 1, _ => exact ⟨(Blk.new w #[va, vb] T).cell 1, hB.kept (oneB w _)⟩
theorem rows_three (w : World) (va vb vc : Value) (A B C : List Pos) (hA : PRow w va A) (hB : PRow w vb B) (hC : PRow w vc C) (T : TypeId) (b : Nat) (hb : b = w.heap.size) : RowsP (w.alloc (.cells #[va, vb, vc] T)) b 0 [va, vb, vc] [A, B, C] := by
  subst hb
  refine ⟨rfl, fun i hi => ?_⟩
  match i, hi with
  | 0, _ => exact ⟨(Blk.new w #[va, vb, vc] T).cell 0, hA.kept (oneB w _)⟩
  | 1, _ => exact ⟨(Blk.new w #[va, vb, vc] T).cell 1, hB.kept (oneB w _)⟩
  | 2, _ => exact ⟨(Blk.new w #[va, vb, vc] T).cell 2, hC.kept (oneB w _)⟩
theorem concat_two (w : World) (va vb : Value) (A B : List Pos) (hA : PRow w va A) (hB : PRow w vb B) (hn : A.length + B.length ≤ 2000) :
    Calls Try.prog 56 #[.slice (some ⟨w.heap.size, 0, none⟩) 2 2] (w.alloc (.cells #[va, vb] 48)).drew fun e w' => ∃ v, e = .returned v ∧ OwnP w' (w.heap.size + 1) 77 v (A ++ B) ∧ Below w.heap.size w w' := by
  have h := concatP_any w.heap.size 0 2 2 [va, vb] [A, B] (w.alloc (.cells #[va, vb] 48)).drew (rows_two w va vb A B hA hB _ _ rfl) rfl (by omega) (by simp; omega)
  refine h.mono ?_
  rintro e w' ⟨v, rfl, h1, h2⟩
  refine ⟨v, rfl, ?_, (oneB w _).drew.trans (h2.mono (by simp))⟩
  rw [show [A, B].flatten = A ++ B by simp] at h1
  exact h1.less (by simp)
theorem one_row (w : World) (t : Pos) (T : TypeId) : PRow (w.alloc (.cells #[.int .i64 t.e, .int .i64 t.c, .int .i64 t.a] T)) (.slice (some ⟨w.heap.size, 0, none⟩) 1 1) [t] := by
  refine ⟨_, 1, rfl, by simp, .inr ⟨w.heap.size, 0, rfl, by simp, fun i hi => ?_⟩⟩
  have hb := Blk.new w #[.int .i64 t.e, .int .i64 t.c, .int .i64 t.a] T
  obtain rfl : i = 0 := by simp at hi; omega
  exact ⟨hb.cell 0, hb.cell 1, hb.cell 2⟩
theorem concat_three (w : World) (va vc : Value) (t : Pos) (A C : List Pos) (hA : PRow w va A) (hC : PRow w vc C) (hn : A.length + C.length ≤ 2000) (T : TypeId) :
    Calls Try.prog 56 #[.slice (some ⟨w.heap.size + 1, 0, none⟩) 3 3] ((w.alloc (.cells #[.int .i64 t.e, .int .i64 t.c, .int .i64 t.a] T)).alloc (.cells #[va, .slice (some ⟨w.heap.size, 0, none⟩) 1 1, vc] 48)).drew fun e w' => ∃ v, e = .returned v ∧ OwnP w' (w.heap.size + 1) 77 v (A ++ [t] ++ C) ∧ Below w.heap.size w w' := by
  have h := concatP_any (w.heap.size + 1) 0 3 3 [va, .slice (some ⟨w.heap.size, 0, none⟩) 1 1, vc] [A, [t], C] ((w.alloc (.cells #[.int .i64 t.e, .int .i64 t.c, .int .i64 t.a] T)).alloc (.cells #[va, .slice (some ⟨w.heap.size, 0, none⟩) 1 1, vc] 48)).drew
    (rows_three _ va _ vc A [t] C (hA.kept (oneB w _)) (one_row w t T) (hC.kept (oneB w _)) _ _ (by simp)) rfl (by omega) (by simp; omega)
  refine h.mono ?_
  rintro e w' ⟨v, rfl, h1, h2⟩
  refine ⟨v, rfl, ?_, ((oneB w _).alloc (by simp) _).drew.trans (h2.mono (by simp <;> omega))⟩
  rw [show [A, [t], C].flatten = A ++ [t] ++ C by simp] at h1
  exact h1.less (by simp <;> omega)
set_option maxHeartbeats 2000000 in
theorem with_fzc (w : World) (pv : Option Addr) (cv : Nat) (ps A B : List Pos) (q t : Pos) (hr : PRow w (.slice pv ps.length cv) ps) (hA : Around t ps A [q] B) (hn : ps.length ≤ 1000) (j0 : (t.a == 0) = true) (hcv : cv - A.length = 1) :
    Calls Try.prog 44 #[vecV (.slice pv ps.length cv), posV t.e t.c t.a] w fun x w' => ∃ v', x = .returned (vecV v') ∧ OwnP w' w.heap.size 77 v' (A ++ [] ++ B) ∧ Below w.heap.size w w' := by
  have HF := Lib.hid (fun (w' : World) (hb : Below w.heap.size w w') => find_any w' _ ps A [q] B t (hr.kept hb) hA hn)
  have hall := hA.all
  have hlen : ps.length = A.length + 1 + B.length := by rw [hall]; simp; omega
  have hAt : ps.take A.length = A := by rw [hall, List.append_assoc, List.take_left]
  have hBd : ps.drop (A.length + 1) = B := by rw [hall, List.drop_left' (by simp)]
  have hpc : ps.length ≤ cv := by obtain ⟨_, _, e, h, _⟩ := id hr; cases e; exact h
  have HLEN := Lib.hid hlen
  have HR := Lib.hid hr
  have HAT := Lib.hid hAt
  have HBD := Lib.hid hBd
  obtain ⟨b, o, hpv⟩ : ∃ b o, pv = some ⟨b, o, none⟩ := by obtain ⟨b, o, h, _⟩ := hr.at_ A.length (by omega); exact ⟨b, o, h⟩
  subst hpv
  clear hr hA hall hAt hBd
  unfold vecV posV at *
  rw [show decide (([q] : List Pos) ≠ []) = true by simp] at HF
  have hcap1 : ((A.length : Nat) : Int) ≤ (ps.length : Int) := by omega
  have hcap2 : (ps.length : Int) ≤ (cv : Int) := by omega
  have hcap3 : ((A.length : Nat) : Int) ≤ (cv : Int) := by omega
  have hcn : A.length ≤ cv := by omega
  have hcap4 : ((A.length : Nat) : Int) < (ps.length : Int) := by omega
  have hcap5 : 1 ≤ ps.length - A.length := by omega
  have hcap6 : 1 ≤ cv - A.length := by omega
  have hcap7 : ¬ cv - A.length = 0 := by omega
  have hbl : A.length + B.length ≤ 2000 := by omega
  clear hlen
  go_enter Try.func44, Try.ntmps44
  go_wp2_with fail
  generalize hW1 : ((w.alloc (.cells #[.slice (some ⟨b, o, none⟩) ps.length cv] 50)).alloc (.cells #[.int .i64 t.e, .int .i64 t.c, .int .i64 t.a] 77)).alloc (.cells #[.slice none 0 0] 50) = W1
  have hB1 : Below w.heap.size w W1 := by rw [← hW1]; exact ((oneB w _).alloc (by simp) _).alloc (by simp <;> omega) _
  have hV1 : Blk W1 w.heap.size #[.slice (some ⟨b, o, none⟩) ps.length cv] 50 := by rw [← hW1]; exact ((Blk.new w _ _).alloc _).alloc _
  have hT1 : Blk W1 (w.heap.size + 1) #[.int .i64 t.e, .int .i64 t.c, .int .i64 t.a] 77 := by rw [← hW1]; exact (Blk.new' _ _ _ (by simp)).alloc _
  have hR1 : Blk W1 (w.heap.size + 1 + 1) #[.slice none 0 0] 50 := by rw [← hW1]; exact Blk.new' _ _ _ (by simp)
  clear hW1
  refine (HF.out _ hB1).mono ?_
  rintro y w2 ⟨rfl, hb2⟩
  have hV2 := hV1.below hb2 hV1.lt
  have hT2 := hT1.below hb2 hT1.lt
  have hR2 := hR1.below hb2 hR1.lt
  have v0 : w2.cell? ⟨w.heap.size, 0, none⟩ = some (.slice (some ⟨b, o, none⟩) ps.length cv) := hV2.cell 0
  have t0 : w2.cell? ⟨w.heap.size + 1, 0, none⟩ = some (.int .i64 t.e) := hT2.cell 0
  have t1 : w2.cell? ⟨w.heap.size + 1, 1, none⟩ = some (.int .i64 t.c) := hT2.cell 1
  have t2 : w2.cell? ⟨w.heap.size + 1, 2, none⟩ = some (.int .i64 t.a) := hT2.cell 2
  have HB2 := Lib.hid (hB1.trans (hb2.mono hB1.size))
  have HR2 := Lib.hid hR2
  have HRW := Lib.hid (HR.out.kept HB2.out)
  have ha2 := HRW.out.take A.length (by omega)
  rw [HAT.out] at ha2
  have HA2 := Lib.hid ha2
  have HLR := Lib.hid hR2.lt
  clear hB1 hV1 hT1 hR1 hb2 hV2 hT2 hR2 ha2 HF
  go_wp2_with fail
  go_region
  go_wp2_with fail
  refine (concat_two w2 _ _ A B HA2.out ?hB hbl).mono ?_
  case hB =>
    rw [← HBD.out]
    have hlen : _ = _ := HLEN.out
    exact HRW.out.tail (A.length + 1) (by omega) (by omega) (by omega) (fun b' o' e h => by first | (cases e; simp; done) | (cases e; simp; rw [addAt]; done) | (cases e; simp; omega) | (subst e; simp; omega) | (subst e; simp; rw [addAt]; done) | omega)
  rintro y w3 ⟨v3, rfl, ho3, hb3⟩
  obtain ⟨p3, c3, hv3⟩ := ho3.form
  generalize (A ++ B).length = n3 at hv3
  subst hv3
  have hb3' : Below w2.heap.size w2 w3 := hb3
  have hres := HR2.out.below hb3' HLR.out
  have r0 : w3.cell? ⟨w.heap.size + 1 + 1, 0, none⟩ = some (.slice none 0 0) := hres.cell 0
  have fr0 := hres.free 0
  have lr := hres.lt
  have HO3 := Lib.hid ho3
  have HB := Lib.hid (HB2.out.trans (hb3'.mono HB2.out.size))
  have HR3 := Lib.hid hres
  clear ho3 hb3 hb3' hres
  go_wp2_with fail
  have hf := HR3.out.set 0 (.slice p3 n3 c3)
  refine bodyPost_ret (v := .agg #[.slice p3 n3 c3]) (by simp [results, Try.results44, go_sem, hf.cell 0]) rfl ⟨_, rfl, by rw [List.append_nil]; exact (HO3.out.setLow (show w.heap.size + 1 + 1 < w2.heap.size + 1 from Nat.lt_succ_of_lt HLR.out) _).less (by have := HLR.out; omega), HB.out.setCell (p := ⟨w.heap.size + 1 + 1, 0, none⟩) (by show w.heap.size ≤ w.heap.size + 1 + 1; omega) _⟩
set_option maxHeartbeats 2000000 in
theorem with_fzo (w : World) (pv : Option Addr) (cv : Nat) (ps A B : List Pos) (q t : Pos) (hr : PRow w (.slice pv ps.length cv) ps) (hA : Around t ps A [q] B) (hn : ps.length ≤ 1000) (j0 : (t.a == 0) = true) (hcv : ¬ cv - A.length = 1) :
    Calls Try.prog 44 #[vecV (.slice pv ps.length cv), posV t.e t.c t.a] w fun x w' => ∃ v', x = .returned (vecV v') ∧ OwnP w' w.heap.size 77 v' (A ++ [] ++ B) ∧ Below w.heap.size w w' := by
  have HF := Lib.hid (fun (w' : World) (hb : Below w.heap.size w w') => find_any w' _ ps A [q] B t (hr.kept hb) hA hn)
  have hall := hA.all
  have hlen : ps.length = A.length + 1 + B.length := by rw [hall]; simp; omega
  have hAt : ps.take A.length = A := by rw [hall, List.append_assoc, List.take_left]
  have hBd : ps.drop (A.length + 1) = B := by rw [hall, List.drop_left' (by simp)]
  have hpc : ps.length ≤ cv := by obtain ⟨_, _, e, h, _⟩ := id hr; cases e; exact h
  have HLEN := Lib.hid hlen
  have HR := Lib.hid hr
  have HAT := Lib.hid hAt
  have HBD := Lib.hid hBd
  obtain ⟨b, o, hpv⟩ : ∃ b o, pv = some ⟨b, o, none⟩ := by obtain ⟨b, o, h, _⟩ := hr.at_ A.length (by omega); exact ⟨b, o, h⟩
  subst hpv
  clear hr hA hall hAt hBd
  unfold vecV posV at *
  rw [show decide (([q] : List Pos) ≠ []) = true by simp] at HF
  have hcap1 : ((A.length : Nat) : Int) ≤ (ps.length : Int) := by omega
  have hcap2 : (ps.length : Int) ≤ (cv : Int) := by omega
  have hcap3 : ((A.length : Nat) : Int) ≤ (cv : Int) := by omega
  have hcn : A.length ≤ cv := by omega
  have hcap4 : ((A.length : Nat) : Int) < (ps.length : Int) := by omega
  have hcap5 : 1 ≤ ps.length - A.length := by omega
  have hcap6 : 1 ≤ cv - A.length := by omega
  have hcap7 : ¬ cv - A.length = 0 := by omega
  have hbl : A.length + B.length ≤ 2000 := by omega
  clear hlen
  go_enter Try.func44, Try.ntmps44
  go_wp2_with fail
  generalize hW1 : ((w.alloc (.cells #[.slice (some ⟨b, o, none⟩) ps.length cv] 50)).alloc (.cells #[.int .i64 t.e, .int .i64 t.c, .int .i64 t.a] 77)).alloc (.cells #[.slice none 0 0] 50) = W1
  have hB1 : Below w.heap.size w W1 := by rw [← hW1]; exact ((oneB w _).alloc (by simp) _).alloc (by simp <;> omega) _
  have hV1 : Blk W1 w.heap.size #[.slice (some ⟨b, o, none⟩) ps.length cv] 50 := by rw [← hW1]; exact ((Blk.new w _ _).alloc _).alloc _
  have hT1 : Blk W1 (w.heap.size + 1) #[.int .i64 t.e, .int .i64 t.c, .int .i64 t.a] 77 := by rw [← hW1]; exact (Blk.new' _ _ _ (by simp)).alloc _
  have hR1 : Blk W1 (w.heap.size + 1 + 1) #[.slice none 0 0] 50 := by rw [← hW1]; exact Blk.new' _ _ _ (by simp)
  clear hW1
  refine (HF.out _ hB1).mono ?_
  rintro y w2 ⟨rfl, hb2⟩
  have hV2 := hV1.below hb2 hV1.lt
  have hT2 := hT1.below hb2 hT1.lt
  have hR2 := hR1.below hb2 hR1.lt
  have v0 : w2.cell? ⟨w.heap.size, 0, none⟩ = some (.slice (some ⟨b, o, none⟩) ps.length cv) := hV2.cell 0
  have t0 : w2.cell? ⟨w.heap.size + 1, 0, none⟩ = some (.int .i64 t.e) := hT2.cell 0
  have t1 : w2.cell? ⟨w.heap.size + 1, 1, none⟩ = some (.int .i64 t.c) := hT2.cell 1
  have t2 : w2.cell? ⟨w.heap.size + 1, 2, none⟩ = some (.int .i64 t.a) := hT2.cell 2
  have HB2 := Lib.hid (hB1.trans (hb2.mono hB1.size))
  have HR2 := Lib.hid hR2
  have HRW := Lib.hid (HR.out.kept HB2.out)
  have ha2 := HRW.out.take A.length (by omega)
  rw [HAT.out] at ha2
  have HA2 := Lib.hid ha2
  have HLR := Lib.hid hR2.lt
  clear hB1 hV1 hT1 hR1 hb2 hV2 hT2 hR2 ha2 HF
  go_wp2_with fail
  go_region
  go_wp2_with fail
  refine (concat_two w2 _ _ A B HA2.out ?hB hbl).mono ?_
  case hB =>
    rw [← HBD.out]
    have hlen : _ = _ := HLEN.out
    exact HRW.out.tail (A.length + 1) (by omega) (by omega) (by omega) (fun b' o' e h => by first | (cases e; simp; done) | (cases e; simp; rw [addAt]; done) | (cases e; simp; omega) | (subst e; simp; omega) | (subst e; simp; rw [addAt]; done) | omega)
  rintro y w3 ⟨v3, rfl, ho3, hb3⟩
  obtain ⟨p3, c3, hv3⟩ := ho3.form
  generalize (A ++ B).length = n3 at hv3
  subst hv3
  have hb3' : Below w2.heap.size w2 w3 := hb3
  have hres := HR2.out.below hb3' HLR.out
  have r0 : w3.cell? ⟨w.heap.size + 1 + 1, 0, none⟩ = some (.slice none 0 0) := hres.cell 0
  have fr0 := hres.free 0
  have lr := hres.lt
  have HO3 := Lib.hid ho3
  have HB := Lib.hid (HB2.out.trans (hb3'.mono HB2.out.size))
  have HR3 := Lib.hid hres
  clear ho3 hb3 hb3' hres
  go_wp2_with fail
  have hf := HR3.out.set 0 (.slice p3 n3 c3)
  refine bodyPost_ret (v := .agg #[.slice p3 n3 c3]) (by simp [results, Try.results44, go_sem, hf.cell 0]) rfl ⟨_, rfl, by rw [List.append_nil]; exact (HO3.out.setLow (show w.heap.size + 1 + 1 < w2.heap.size + 1 from Nat.lt_succ_of_lt HLR.out) _).less (by have := HLR.out; omega), HB.out.setCell (p := ⟨w.heap.size + 1 + 1, 0, none⟩) (by show w.heap.size ≤ w.heap.size + 1 + 1; omega) _⟩
set_option maxHeartbeats 2000000 in
theorem with_fac (w : World) (pv : Option Addr) (cv : Nat) (ps A B : List Pos) (q t : Pos) (hr : PRow w (.slice pv ps.length cv) ps) (hA : Around t ps A [q] B) (hn : ps.length ≤ 1000) (j0 : (t.a == 0) = false) (hcv : cv - A.length = 1) :
    Calls Try.prog 44 #[vecV (.slice pv ps.length cv), posV t.e t.c t.a] w fun x w' => ∃ v', x = .returned (vecV v') ∧ OwnP w' w.heap.size 77 v' (A ++ [t] ++ B) ∧ Below w.heap.size w w' := by
  have HF := Lib.hid (fun (w' : World) (hb : Below w.heap.size w w') => find_any w' _ ps A [q] B t (hr.kept hb) hA hn)
  have hall := hA.all
  have hlen : ps.length = A.length + 1 + B.length := by rw [hall]; simp; omega
  have hAt : ps.take A.length = A := by rw [hall, List.append_assoc, List.take_left]
  have hBd : ps.drop (A.length + 1) = B := by rw [hall, List.drop_left' (by simp)]
  have hpc : ps.length ≤ cv := by obtain ⟨_, _, e, h, _⟩ := id hr; cases e; exact h
  have HLEN := Lib.hid hlen
  have HR := Lib.hid hr
  have HAT := Lib.hid hAt
  have HBD := Lib.hid hBd
  obtain ⟨b, o, hpv⟩ : ∃ b o, pv = some ⟨b, o, none⟩ := by obtain ⟨b, o, h, _⟩ := hr.at_ A.length (by omega); exact ⟨b, o, h⟩
  subst hpv
  clear hr hA hall hAt hBd
  unfold vecV posV at *
  rw [show decide (([q] : List Pos) ≠ []) = true by simp] at HF
  have hcap1 : ((A.length : Nat) : Int) ≤ (ps.length : Int) := by omega
  have hcap2 : (ps.length : Int) ≤ (cv : Int) := by omega
  have hcap3 : ((A.length : Nat) : Int) ≤ (cv : Int) := by omega
  have hcn : A.length ≤ cv := by omega
  have hcap4 : ((A.length : Nat) : Int) < (ps.length : Int) := by omega
  have hcap5 : 1 ≤ ps.length - A.length := by omega
  have hcap6 : 1 ≤ cv - A.length := by omega
  have hcap7 : ¬ cv - A.length = 0 := by omega
  have hbl : A.length + B.length ≤ 2000 := by omega
  clear hlen
  go_enter Try.func44, Try.ntmps44
  go_wp2_with fail
  generalize hW1 : ((w.alloc (.cells #[.slice (some ⟨b, o, none⟩) ps.length cv] 50)).alloc (.cells #[.int .i64 t.e, .int .i64 t.c, .int .i64 t.a] 77)).alloc (.cells #[.slice none 0 0] 50) = W1
  have hB1 : Below w.heap.size w W1 := by rw [← hW1]; exact ((oneB w _).alloc (by simp) _).alloc (by simp <;> omega) _
  have hV1 : Blk W1 w.heap.size #[.slice (some ⟨b, o, none⟩) ps.length cv] 50 := by rw [← hW1]; exact ((Blk.new w _ _).alloc _).alloc _
  have hT1 : Blk W1 (w.heap.size + 1) #[.int .i64 t.e, .int .i64 t.c, .int .i64 t.a] 77 := by rw [← hW1]; exact (Blk.new' _ _ _ (by simp)).alloc _
  have hR1 : Blk W1 (w.heap.size + 1 + 1) #[.slice none 0 0] 50 := by rw [← hW1]; exact Blk.new' _ _ _ (by simp)
  clear hW1
  refine (HF.out _ hB1).mono ?_
  rintro y w2 ⟨rfl, hb2⟩
  have hV2 := hV1.below hb2 hV1.lt
  have hT2 := hT1.below hb2 hT1.lt
  have hR2 := hR1.below hb2 hR1.lt
  have v0 : w2.cell? ⟨w.heap.size, 0, none⟩ = some (.slice (some ⟨b, o, none⟩) ps.length cv) := hV2.cell 0
  have t0 : w2.cell? ⟨w.heap.size + 1, 0, none⟩ = some (.int .i64 t.e) := hT2.cell 0
  have t1 : w2.cell? ⟨w.heap.size + 1, 1, none⟩ = some (.int .i64 t.c) := hT2.cell 1
  have t2 : w2.cell? ⟨w.heap.size + 1, 2, none⟩ = some (.int .i64 t.a) := hT2.cell 2
  have HB2 := Lib.hid (hB1.trans (hb2.mono hB1.size))
  have HR2 := Lib.hid hR2
  have HRW := Lib.hid (HR.out.kept HB2.out)
  have ha2 := HRW.out.take A.length (by omega)
  rw [HAT.out] at ha2
  have HA2 := Lib.hid ha2
  have HLR := Lib.hid hR2.lt
  clear hB1 hV1 hT1 hR1 hb2 hV2 hT2 hR2 ha2 HF
  go_wp2_with fail
  go_region
  go_wp2_with fail
  refine (concat_three w2 _ _ t A B HA2.out ?hB hbl _).mono ?_
  case hB =>
    rw [← HBD.out]
    have hlen : _ = _ := HLEN.out
    exact HRW.out.tail (A.length + 1) (by omega) (by omega) (by omega) (fun b' o' e h => by first | (cases e; simp; done) | (cases e; simp; rw [addAt]; done) | (cases e; simp; omega) | (subst e; simp; omega) | (subst e; simp; rw [addAt]; done) | omega)
  rintro y w3 ⟨v3, rfl, ho3, hb3⟩
  obtain ⟨p3, c3, hv3⟩ := ho3.form
  generalize (A ++ [t] ++ B).length = n3 at hv3
  subst hv3
  have hb3' : Below w2.heap.size w2 w3 := hb3
  have hres := HR2.out.below hb3' HLR.out
  have r0 : w3.cell? ⟨w.heap.size + 1 + 1, 0, none⟩ = some (.slice none 0 0) := hres.cell 0
  have fr0 := hres.free 0
  have lr := hres.lt
  have HO3 := Lib.hid ho3
  have HB := Lib.hid (HB2.out.trans (hb3'.mono HB2.out.size))
  have HR3 := Lib.hid hres
  clear ho3 hb3 hb3' hres
  go_wp2_with fail
  have hf := HR3.out.set 0 (.slice p3 n3 c3)
  refine bodyPost_ret (v := .agg #[.slice p3 n3 c3]) (by simp [results, Try.results44, go_sem, hf.cell 0]) rfl ⟨_, rfl,  (HO3.out.setLow (show w.heap.size + 1 + 1 < w2.heap.size + 1 from Nat.lt_succ_of_lt HLR.out) _).less (by have := HLR.out; omega), HB.out.setCell (p := ⟨w.heap.size + 1 + 1, 0, none⟩) (by show w.heap.size ≤ w.heap.size + 1 + 1; omega) _⟩
set_option maxHeartbeats 2000000 in
theorem with_fao (w : World) (pv : Option Addr) (cv : Nat) (ps A B : List Pos) (q t : Pos) (hr : PRow w (.slice pv ps.length cv) ps) (hA : Around t ps A [q] B) (hn : ps.length ≤ 1000) (j0 : (t.a == 0) = false) (hcv : ¬ cv - A.length = 1) :
    Calls Try.prog 44 #[vecV (.slice pv ps.length cv), posV t.e t.c t.a] w fun x w' => ∃ v', x = .returned (vecV v') ∧ OwnP w' w.heap.size 77 v' (A ++ [t] ++ B) ∧ Below w.heap.size w w' := by
  have HF := Lib.hid (fun (w' : World) (hb : Below w.heap.size w w') => find_any w' _ ps A [q] B t (hr.kept hb) hA hn)
  have hall := hA.all
  have hlen : ps.length = A.length + 1 + B.length := by rw [hall]; simp; omega
  have hAt : ps.take A.length = A := by rw [hall, List.append_assoc, List.take_left]
  have hBd : ps.drop (A.length + 1) = B := by rw [hall, List.drop_left' (by simp)]
  have hpc : ps.length ≤ cv := by obtain ⟨_, _, e, h, _⟩ := id hr; cases e; exact h
  have HLEN := Lib.hid hlen
  have HR := Lib.hid hr
  have HAT := Lib.hid hAt
  have HBD := Lib.hid hBd
  obtain ⟨b, o, hpv⟩ : ∃ b o, pv = some ⟨b, o, none⟩ := by obtain ⟨b, o, h, _⟩ := hr.at_ A.length (by omega); exact ⟨b, o, h⟩
  subst hpv
  clear hr hA hall hAt hBd
  unfold vecV posV at *
  rw [show decide (([q] : List Pos) ≠ []) = true by simp] at HF
  have hcap1 : ((A.length : Nat) : Int) ≤ (ps.length : Int) := by omega
  have hcap2 : (ps.length : Int) ≤ (cv : Int) := by omega
  have hcap3 : ((A.length : Nat) : Int) ≤ (cv : Int) := by omega
  have hcn : A.length ≤ cv := by omega
  have hcap4 : ((A.length : Nat) : Int) < (ps.length : Int) := by omega
  have hcap5 : 1 ≤ ps.length - A.length := by omega
  have hcap6 : 1 ≤ cv - A.length := by omega
  have hcap7 : ¬ cv - A.length = 0 := by omega
  have hbl : A.length + B.length ≤ 2000 := by omega
  clear hlen
  go_enter Try.func44, Try.ntmps44
  go_wp2_with fail
  generalize hW1 : ((w.alloc (.cells #[.slice (some ⟨b, o, none⟩) ps.length cv] 50)).alloc (.cells #[.int .i64 t.e, .int .i64 t.c, .int .i64 t.a] 77)).alloc (.cells #[.slice none 0 0] 50) = W1
  have hB1 : Below w.heap.size w W1 := by rw [← hW1]; exact ((oneB w _).alloc (by simp) _).alloc (by simp <;> omega) _
  have hV1 : Blk W1 w.heap.size #[.slice (some ⟨b, o, none⟩) ps.length cv] 50 := by rw [← hW1]; exact ((Blk.new w _ _).alloc _).alloc _
  have hT1 : Blk W1 (w.heap.size + 1) #[.int .i64 t.e, .int .i64 t.c, .int .i64 t.a] 77 := by rw [← hW1]; exact (Blk.new' _ _ _ (by simp)).alloc _
  have hR1 : Blk W1 (w.heap.size + 1 + 1) #[.slice none 0 0] 50 := by rw [← hW1]; exact Blk.new' _ _ _ (by simp)
  clear hW1
  refine (HF.out _ hB1).mono ?_
  rintro y w2 ⟨rfl, hb2⟩
  have hV2 := hV1.below hb2 hV1.lt
  have hT2 := hT1.below hb2 hT1.lt
  have hR2 := hR1.below hb2 hR1.lt
  have v0 : w2.cell? ⟨w.heap.size, 0, none⟩ = some (.slice (some ⟨b, o, none⟩) ps.length cv) := hV2.cell 0
  have t0 : w2.cell? ⟨w.heap.size + 1, 0, none⟩ = some (.int .i64 t.e) := hT2.cell 0
  have t1 : w2.cell? ⟨w.heap.size + 1, 1, none⟩ = some (.int .i64 t.c) := hT2.cell 1
  have t2 : w2.cell? ⟨w.heap.size + 1, 2, none⟩ = some (.int .i64 t.a) := hT2.cell 2
  have HB2 := Lib.hid (hB1.trans (hb2.mono hB1.size))
  have HR2 := Lib.hid hR2
  have HRW := Lib.hid (HR.out.kept HB2.out)
  have ha2 := HRW.out.take A.length (by omega)
  rw [HAT.out] at ha2
  have HA2 := Lib.hid ha2
  have HLR := Lib.hid hR2.lt
  clear hB1 hV1 hT1 hR1 hb2 hV2 hT2 hR2 ha2 HF
  go_wp2_with fail
  go_region
  go_wp2_with fail
  refine (concat_three w2 _ _ t A B HA2.out ?hB hbl _).mono ?_
  case hB =>
    rw [← HBD.out]
    have hlen : _ = _ := HLEN.out
    exact HRW.out.tail (A.length + 1) (by omega) (by omega) (by omega) (fun b' o' e h => by first | (cases e; simp; done) | (cases e; simp; rw [addAt]; done) | (cases e; simp; omega) | (subst e; simp; omega) | (subst e; simp; rw [addAt]; done) | omega)
  rintro y w3 ⟨v3, rfl, ho3, hb3⟩
  obtain ⟨p3, c3, hv3⟩ := ho3.form
  generalize (A ++ [t] ++ B).length = n3 at hv3
  subst hv3
  have hb3' : Below w2.heap.size w2 w3 := hb3
  have hres := HR2.out.below hb3' HLR.out
  have r0 : w3.cell? ⟨w.heap.size + 1 + 1, 0, none⟩ = some (.slice none 0 0) := hres.cell 0
  have fr0 := hres.free 0
  have lr := hres.lt
  have HO3 := Lib.hid ho3
  have HB := Lib.hid (HB2.out.trans (hb3'.mono HB2.out.size))
  have HR3 := Lib.hid hres
  clear ho3 hb3 hb3' hres
  go_wp2_with fail
  have hf := HR3.out.set 0 (.slice p3 n3 c3)
  refine bodyPost_ret (v := .agg #[.slice p3 n3 c3]) (by simp [results, Try.results44, go_sem, hf.cell 0]) rfl ⟨_, rfl,  (HO3.out.setLow (show w.heap.size + 1 + 1 < w2.heap.size + 1 from Nat.lt_succ_of_lt HLR.out) _).less (by have := HLR.out; omega), HB.out.setCell (p := ⟨w.heap.size + 1 + 1, 0, none⟩) (by show w.heap.size ≤ w.heap.size + 1 + 1; omega) _⟩
set_option maxHeartbeats 2000000 in
theorem with_nzc (w : World) (pv : Option Addr) (cv : Nat) (ps A B : List Pos) (t : Pos) (hr : PRow w (.slice pv ps.length cv) ps) (hA : Around t ps A [] B) (hn : ps.length ≤ 1000) (j0 : (t.a == 0) = true) (hcv : cv - A.length = 0) :
    Calls Try.prog 44 #[vecV (.slice pv ps.length cv), posV t.e t.c t.a] w fun x w' => ∃ v', x = .returned (vecV v') ∧ OwnP w' w.heap.size 77 v' (A ++ [] ++ B) ∧ Below w.heap.size w w' := by
  have HF := Lib.hid (fun (w' : World) (hb : Below w.heap.size w w') => find_any w' _ ps A [] B t (hr.kept hb) hA hn)
  have hall := hA.all
  have hlen : ps.length = A.length + 0 + B.length := by rw [hall]; simp
  have hAt : ps.take A.length = A := by rw [hall, List.append_assoc, List.take_left]
  have hBd : ps.drop (A.length + 0) = B := by rw [hall, List.drop_left' (by simp)]
  have hpc : ps.length ≤ cv := by obtain ⟨_, _, e, h, _⟩ := id hr; cases e; exact h
  have HLEN := Lib.hid hlen
  have HR := Lib.hid hr
  have HAT := Lib.hid hAt
  have HBD := Lib.hid hBd
  clear hr hA hall hAt hBd
  unfold vecV posV at *
  rw [show decide (([] : List Pos) ≠ []) = false by simp] at HF
  have hcap1 : ((A.length : Nat) : Int) ≤ (ps.length : Int) := by omega
  have hcap2 : (ps.length : Int) ≤ (cv : Int) := by omega
  have hcap3 : ((A.length : Nat) : Int) ≤ (cv : Int) := by omega
  have hcn : A.length ≤ cv := by omega
  have hbl : A.length + B.length ≤ 2000 := by omega
  clear hlen
  go_enter Try.func44, Try.ntmps44
  go_wp2_with fail
  generalize hW1 : ((w.alloc (.cells #[.slice pv ps.length cv] 50)).alloc (.cells #[.int .i64 t.e, .int .i64 t.c, .int .i64 t.a] 77)).alloc (.cells #[.slice none 0 0] 50) = W1
  have hB1 : Below w.heap.size w W1 := by rw [← hW1]; exact ((oneB w _).alloc (by simp) _).alloc (by simp <;> omega) _
  have hV1 : Blk W1 w.heap.size #[.slice pv ps.length cv] 50 := by rw [← hW1]; exact ((Blk.new w _ _).alloc _).alloc _
  have hT1 : Blk W1 (w.heap.size + 1) #[.int .i64 t.e, .int .i64 t.c, .int .i64 t.a] 77 := by rw [← hW1]; exact (Blk.new' _ _ _ (by simp)).alloc _
  have hR1 : Blk W1 (w.heap.size + 1 + 1) #[.slice none 0 0] 50 := by rw [← hW1]; exact Blk.new' _ _ _ (by simp)
  clear hW1
  refine (HF.out _ hB1).mono ?_
  rintro y w2 ⟨rfl, hb2⟩
  have hV2 := hV1.below hb2 hV1.lt
  have hT2 := hT1.below hb2 hT1.lt
  have hR2 := hR1.below hb2 hR1.lt
  have v0 : w2.cell? ⟨w.heap.size, 0, none⟩ = some (.slice pv ps.length cv) := hV2.cell 0
  have t0 : w2.cell? ⟨w.heap.size + 1, 0, none⟩ = some (.int .i64 t.e) := hT2.cell 0
  have t1 : w2.cell? ⟨w.heap.size + 1, 1, none⟩ = some (.int .i64 t.c) := hT2.cell 1
  have t2 : w2.cell? ⟨w.heap.size + 1, 2, none⟩ = some (.int .i64 t.a) := hT2.cell 2
  have HB2 := Lib.hid (hB1.trans (hb2.mono hB1.size))
  have HR2 := Lib.hid hR2
  have HRW := Lib.hid (HR.out.kept HB2.out)
  have ha2 := HRW.out.take A.length (by omega)
  rw [HAT.out] at ha2
  have HA2 := Lib.hid ha2
  have HLR := Lib.hid hR2.lt
  clear hB1 hV1 hT1 hR1 hb2 hV2 hT2 hR2 ha2 HF
  go_wp2_with fail
  go_region
  go_wp2_with fail
  refine (concat_two w2 _ _ A B HA2.out ?hB hbl).mono ?_
  case hB =>
    rw [← HBD.out]
    have hlen : _ = _ := HLEN.out
    exact HRW.out.tail (A.length + 0) (by omega) (by omega) (by omega) (fun b' o' e h => by first | (cases e; simp; done) | (cases e; simp; rw [addAt]; done) | (cases e; simp; omega) | (subst e; simp; omega) | (subst e; simp; rw [addAt]; done) | omega)
  rintro y w3 ⟨v3, rfl, ho3, hb3⟩
  obtain ⟨p3, c3, hv3⟩ := ho3.form
  generalize (A ++ B).length = n3 at hv3
  subst hv3
  have hb3' : Below w2.heap.size w2 w3 := hb3
  have hres := HR2.out.below hb3' HLR.out
  have r0 : w3.cell? ⟨w.heap.size + 1 + 1, 0, none⟩ = some (.slice none 0 0) := hres.cell 0
  have fr0 := hres.free 0
  have lr := hres.lt
  have HO3 := Lib.hid ho3
  have HB := Lib.hid (HB2.out.trans (hb3'.mono HB2.out.size))
  have HR3 := Lib.hid hres
  clear ho3 hb3 hb3' hres
  go_wp2_with fail
  have hf := HR3.out.set 0 (.slice p3 n3 c3)
  refine bodyPost_ret (v := .agg #[.slice p3 n3 c3]) (by simp [results, Try.results44, go_sem, hf.cell 0]) rfl ⟨_, rfl, by rw [List.append_nil]; exact (HO3.out.setLow (show w.heap.size + 1 + 1 < w2.heap.size + 1 from Nat.lt_succ_of_lt HLR.out) _).less (by have := HLR.out; omega), HB.out.setCell (p := ⟨w.heap.size + 1 + 1, 0, none⟩) (by show w.heap.size ≤ w.heap.size + 1 + 1; omega) _⟩
set_option maxHeartbeats 2000000 in
theorem with_nzo (w : World) (pv : Option Addr) (cv : Nat) (ps A B : List Pos) (t : Pos) (hr : PRow w (.slice pv ps.length cv) ps) (hA : Around t ps A [] B) (hn : ps.length ≤ 1000) (j0 : (t.a == 0) = true) (hcv : ¬ cv - A.length = 0) :
    Calls Try.prog 44 #[vecV (.slice pv ps.length cv), posV t.e t.c t.a] w fun x w' => ∃ v', x = .returned (vecV v') ∧ OwnP w' w.heap.size 77 v' (A ++ [] ++ B) ∧ Below w.heap.size w w' := by
  have HF := Lib.hid (fun (w' : World) (hb : Below w.heap.size w w') => find_any w' _ ps A [] B t (hr.kept hb) hA hn)
  have hall := hA.all
  have hlen : ps.length = A.length + 0 + B.length := by rw [hall]; simp
  have hAt : ps.take A.length = A := by rw [hall, List.append_assoc, List.take_left]
  have hBd : ps.drop (A.length + 0) = B := by rw [hall, List.drop_left' (by simp)]
  have hpc : ps.length ≤ cv := by obtain ⟨_, _, e, h, _⟩ := id hr; cases e; exact h
  have HLEN := Lib.hid hlen
  have HR := Lib.hid hr
  have HAT := Lib.hid hAt
  have HBD := Lib.hid hBd
  clear hr hA hall hAt hBd
  unfold vecV posV at *
  rw [show decide (([] : List Pos) ≠ []) = false by simp] at HF
  have hcap1 : ((A.length : Nat) : Int) ≤ (ps.length : Int) := by omega
  have hcap2 : (ps.length : Int) ≤ (cv : Int) := by omega
  have hcap3 : ((A.length : Nat) : Int) ≤ (cv : Int) := by omega
  have hcn : A.length ≤ cv := by omega
  have hbl : A.length + B.length ≤ 2000 := by omega
  clear hlen
  go_enter Try.func44, Try.ntmps44
  go_wp2_with fail
  generalize hW1 : ((w.alloc (.cells #[.slice pv ps.length cv] 50)).alloc (.cells #[.int .i64 t.e, .int .i64 t.c, .int .i64 t.a] 77)).alloc (.cells #[.slice none 0 0] 50) = W1
  have hB1 : Below w.heap.size w W1 := by rw [← hW1]; exact ((oneB w _).alloc (by simp) _).alloc (by simp <;> omega) _
  have hV1 : Blk W1 w.heap.size #[.slice pv ps.length cv] 50 := by rw [← hW1]; exact ((Blk.new w _ _).alloc _).alloc _
  have hT1 : Blk W1 (w.heap.size + 1) #[.int .i64 t.e, .int .i64 t.c, .int .i64 t.a] 77 := by rw [← hW1]; exact (Blk.new' _ _ _ (by simp)).alloc _
  have hR1 : Blk W1 (w.heap.size + 1 + 1) #[.slice none 0 0] 50 := by rw [← hW1]; exact Blk.new' _ _ _ (by simp)
  clear hW1
  refine (HF.out _ hB1).mono ?_
  rintro y w2 ⟨rfl, hb2⟩
  have hV2 := hV1.below hb2 hV1.lt
  have hT2 := hT1.below hb2 hT1.lt
  have hR2 := hR1.below hb2 hR1.lt
  have v0 : w2.cell? ⟨w.heap.size, 0, none⟩ = some (.slice pv ps.length cv) := hV2.cell 0
  have t0 : w2.cell? ⟨w.heap.size + 1, 0, none⟩ = some (.int .i64 t.e) := hT2.cell 0
  have t1 : w2.cell? ⟨w.heap.size + 1, 1, none⟩ = some (.int .i64 t.c) := hT2.cell 1
  have t2 : w2.cell? ⟨w.heap.size + 1, 2, none⟩ = some (.int .i64 t.a) := hT2.cell 2
  have HB2 := Lib.hid (hB1.trans (hb2.mono hB1.size))
  have HR2 := Lib.hid hR2
  have HRW := Lib.hid (HR.out.kept HB2.out)
  have ha2 := HRW.out.take A.length (by omega)
  rw [HAT.out] at ha2
  have HA2 := Lib.hid ha2
  have HLR := Lib.hid hR2.lt
  clear hB1 hV1 hT1 hR1 hb2 hV2 hT2 hR2 ha2 HF
  go_wp2_with fail
  go_region
  go_wp2_with fail
  refine (concat_two w2 _ _ A B HA2.out ?hB hbl).mono ?_
  case hB =>
    rw [← HBD.out]
    have hlen : _ = _ := HLEN.out
    exact HRW.out.tail (A.length + 0) (by omega) (by omega) (by omega) (fun b' o' e h => by first | (cases e; simp; done) | (cases e; simp; rw [addAt]; done) | (cases e; simp; omega) | (subst e; simp; omega) | (subst e; simp; rw [addAt]; done) | omega)
  rintro y w3 ⟨v3, rfl, ho3, hb3⟩
  obtain ⟨p3, c3, hv3⟩ := ho3.form
  generalize (A ++ B).length = n3 at hv3
  subst hv3
  have hb3' : Below w2.heap.size w2 w3 := hb3
  have hres := HR2.out.below hb3' HLR.out
  have r0 : w3.cell? ⟨w.heap.size + 1 + 1, 0, none⟩ = some (.slice none 0 0) := hres.cell 0
  have fr0 := hres.free 0
  have lr := hres.lt
  have HO3 := Lib.hid ho3
  have HB := Lib.hid (HB2.out.trans (hb3'.mono HB2.out.size))
  have HR3 := Lib.hid hres
  clear ho3 hb3 hb3' hres
  go_wp2_with fail
  have hf := HR3.out.set 0 (.slice p3 n3 c3)
  refine bodyPost_ret (v := .agg #[.slice p3 n3 c3]) (by simp [results, Try.results44, go_sem, hf.cell 0]) rfl ⟨_, rfl, by rw [List.append_nil]; exact (HO3.out.setLow (show w.heap.size + 1 + 1 < w2.heap.size + 1 from Nat.lt_succ_of_lt HLR.out) _).less (by have := HLR.out; omega), HB.out.setCell (p := ⟨w.heap.size + 1 + 1, 0, none⟩) (by show w.heap.size ≤ w.heap.size + 1 + 1; omega) _⟩
set_option maxHeartbeats 2000000 in
theorem with_nac (w : World) (pv : Option Addr) (cv : Nat) (ps A B : List Pos) (t : Pos) (hr : PRow w (.slice pv ps.length cv) ps) (hA : Around t ps A [] B) (hn : ps.length ≤ 1000) (j0 : (t.a == 0) = false) (hcv : cv - A.length = 0) :
    Calls Try.prog 44 #[vecV (.slice pv ps.length cv), posV t.e t.c t.a] w fun x w' => ∃ v', x = .returned (vecV v') ∧ OwnP w' w.heap.size 77 v' (A ++ [t] ++ B) ∧ Below w.heap.size w w' := by
  have HF := Lib.hid (fun (w' : World) (hb : Below w.heap.size w w') => find_any w' _ ps A [] B t (hr.kept hb) hA hn)
  have hall := hA.all
  have hlen : ps.length = A.length + 0 + B.length := by rw [hall]; simp
  have hAt : ps.take A.length = A := by rw [hall, List.append_assoc, List.take_left]
  have hBd : ps.drop (A.length + 0) = B := by rw [hall, List.drop_left' (by simp)]
  have hpc : ps.length ≤ cv := by obtain ⟨_, _, e, h, _⟩ := id hr; cases e; exact h
  have HLEN := Lib.hid hlen
  have HR := Lib.hid hr
  have HAT := Lib.hid hAt
  have HBD := Lib.hid hBd
  clear hr hA hall hAt hBd
  unfold vecV posV at *
  rw [show decide (([] : List Pos) ≠ []) = false by simp] at HF
  have hcap1 : ((A.length : Nat) : Int) ≤ (ps.length : Int) := by omega
  have hcap2 : (ps.length : Int) ≤ (cv : Int) := by omega
  have hcap3 : ((A.length : Nat) : Int) ≤ (cv : Int) := by omega
  have hcn : A.length ≤ cv := by omega
  have hbl : A.length + B.length ≤ 2000 := by omega
  clear hlen
  go_enter Try.func44, Try.ntmps44
  go_wp2_with fail
  generalize hW1 : ((w.alloc (.cells #[.slice pv ps.length cv] 50)).alloc (.cells #[.int .i64 t.e, .int .i64 t.c, .int .i64 t.a] 77)).alloc (.cells #[.slice none 0 0] 50) = W1
  have hB1 : Below w.heap.size w W1 := by rw [← hW1]; exact ((oneB w _).alloc (by simp) _).alloc (by simp <;> omega) _
  have hV1 : Blk W1 w.heap.size #[.slice pv ps.length cv] 50 := by rw [← hW1]; exact ((Blk.new w _ _).alloc _).alloc _
  have hT1 : Blk W1 (w.heap.size + 1) #[.int .i64 t.e, .int .i64 t.c, .int .i64 t.a] 77 := by rw [← hW1]; exact (Blk.new' _ _ _ (by simp)).alloc _
  have hR1 : Blk W1 (w.heap.size + 1 + 1) #[.slice none 0 0] 50 := by rw [← hW1]; exact Blk.new' _ _ _ (by simp)
  clear hW1
  refine (HF.out _ hB1).mono ?_
  rintro y w2 ⟨rfl, hb2⟩
  have hV2 := hV1.below hb2 hV1.lt
  have hT2 := hT1.below hb2 hT1.lt
  have hR2 := hR1.below hb2 hR1.lt
  have v0 : w2.cell? ⟨w.heap.size, 0, none⟩ = some (.slice pv ps.length cv) := hV2.cell 0
  have t0 : w2.cell? ⟨w.heap.size + 1, 0, none⟩ = some (.int .i64 t.e) := hT2.cell 0
  have t1 : w2.cell? ⟨w.heap.size + 1, 1, none⟩ = some (.int .i64 t.c) := hT2.cell 1
  have t2 : w2.cell? ⟨w.heap.size + 1, 2, none⟩ = some (.int .i64 t.a) := hT2.cell 2
  have HB2 := Lib.hid (hB1.trans (hb2.mono hB1.size))
  have HR2 := Lib.hid hR2
  have HRW := Lib.hid (HR.out.kept HB2.out)
  have ha2 := HRW.out.take A.length (by omega)
  rw [HAT.out] at ha2
  have HA2 := Lib.hid ha2
  have HLR := Lib.hid hR2.lt
  clear hB1 hV1 hT1 hR1 hb2 hV2 hT2 hR2 ha2 HF
  go_wp2_with fail
  go_region
  go_wp2_with fail
  refine (concat_three w2 _ _ t A B HA2.out ?hB hbl _).mono ?_
  case hB =>
    rw [← HBD.out]
    have hlen : _ = _ := HLEN.out
    exact HRW.out.tail (A.length + 0) (by omega) (by omega) (by omega) (fun b' o' e h => by first | (cases e; simp; done) | (cases e; simp; rw [addAt]; done) | (cases e; simp; omega) | (subst e; simp; omega) | (subst e; simp; rw [addAt]; done) | omega)
  rintro y w3 ⟨v3, rfl, ho3, hb3⟩
  obtain ⟨p3, c3, hv3⟩ := ho3.form
  generalize (A ++ [t] ++ B).length = n3 at hv3
  subst hv3
  have hb3' : Below w2.heap.size w2 w3 := hb3
  have hres := HR2.out.below hb3' HLR.out
  have r0 : w3.cell? ⟨w.heap.size + 1 + 1, 0, none⟩ = some (.slice none 0 0) := hres.cell 0
  have fr0 := hres.free 0
  have lr := hres.lt
  have HO3 := Lib.hid ho3
  have HB := Lib.hid (HB2.out.trans (hb3'.mono HB2.out.size))
  have HR3 := Lib.hid hres
  clear ho3 hb3 hb3' hres
  go_wp2_with fail
  have hf := HR3.out.set 0 (.slice p3 n3 c3)
  refine bodyPost_ret (v := .agg #[.slice p3 n3 c3]) (by simp [results, Try.results44, go_sem, hf.cell 0]) rfl ⟨_, rfl,  (HO3.out.setLow (show w.heap.size + 1 + 1 < w2.heap.size + 1 from Nat.lt_succ_of_lt HLR.out) _).less (by have := HLR.out; omega), HB.out.setCell (p := ⟨w.heap.size + 1 + 1, 0, none⟩) (by show w.heap.size ≤ w.heap.size + 1 + 1; omega) _⟩
set_option maxHeartbeats 2000000 in
theorem with_nao (w : World) (pv : Option Addr) (cv : Nat) (ps A B : List Pos) (t : Pos) (hr : PRow w (.slice pv ps.length cv) ps) (hA : Around t ps A [] B) (hn : ps.length ≤ 1000) (j0 : (t.a == 0) = false) (hcv : ¬ cv - A.length = 0) :
    Calls Try.prog 44 #[vecV (.slice pv ps.length cv), posV t.e t.c t.a] w fun x w' => ∃ v', x = .returned (vecV v') ∧ OwnP w' w.heap.size 77 v' (A ++ [t] ++ B) ∧ Below w.heap.size w w' := by
  have HF := Lib.hid (fun (w' : World) (hb : Below w.heap.size w w') => find_any w' _ ps A [] B t (hr.kept hb) hA hn)
  have hall := hA.all
  have hlen : ps.length = A.length + 0 + B.length := by rw [hall]; simp
  have hAt : ps.take A.length = A := by rw [hall, List.append_assoc, List.take_left]
  have hBd : ps.drop (A.length + 0) = B := by rw [hall, List.drop_left' (by simp)]
  have hpc : ps.length ≤ cv := by obtain ⟨_, _, e, h, _⟩ := id hr; cases e; exact h
  have HLEN := Lib.hid hlen
  have HR := Lib.hid hr
  have HAT := Lib.hid hAt
  have HBD := Lib.hid hBd
  clear hr hA hall hAt hBd
  unfold vecV posV at *
  rw [show decide (([] : List Pos) ≠ []) = false by simp] at HF
  have hcap1 : ((A.length : Nat) : Int) ≤ (ps.length : Int) := by omega
  have hcap2 : (ps.length : Int) ≤ (cv : Int) := by omega
  have hcap3 : ((A.length : Nat) : Int) ≤ (cv : Int) := by omega
  have hcn : A.length ≤ cv := by omega
  have hbl : A.length + B.length ≤ 2000 := by omega
  clear hlen
  go_enter Try.func44, Try.ntmps44
  go_wp2_with fail
  generalize hW1 : ((w.alloc (.cells #[.slice pv ps.length cv] 50)).alloc (.cells #[.int .i64 t.e, .int .i64 t.c, .int .i64 t.a] 77)).alloc (.cells #[.slice none 0 0] 50) = W1
  have hB1 : Below w.heap.size w W1 := by rw [← hW1]; exact ((oneB w _).alloc (by simp) _).alloc (by simp <;> omega) _
  have hV1 : Blk W1 w.heap.size #[.slice pv ps.length cv] 50 := by rw [← hW1]; exact ((Blk.new w _ _).alloc _).alloc _
  have hT1 : Blk W1 (w.heap.size + 1) #[.int .i64 t.e, .int .i64 t.c, .int .i64 t.a] 77 := by rw [← hW1]; exact (Blk.new' _ _ _ (by simp)).alloc _
  have hR1 : Blk W1 (w.heap.size + 1 + 1) #[.slice none 0 0] 50 := by rw [← hW1]; exact Blk.new' _ _ _ (by simp)
  clear hW1
  refine (HF.out _ hB1).mono ?_
  rintro y w2 ⟨rfl, hb2⟩
  have hV2 := hV1.below hb2 hV1.lt
  have hT2 := hT1.below hb2 hT1.lt
  have hR2 := hR1.below hb2 hR1.lt
  have v0 : w2.cell? ⟨w.heap.size, 0, none⟩ = some (.slice pv ps.length cv) := hV2.cell 0
  have t0 : w2.cell? ⟨w.heap.size + 1, 0, none⟩ = some (.int .i64 t.e) := hT2.cell 0
  have t1 : w2.cell? ⟨w.heap.size + 1, 1, none⟩ = some (.int .i64 t.c) := hT2.cell 1
  have t2 : w2.cell? ⟨w.heap.size + 1, 2, none⟩ = some (.int .i64 t.a) := hT2.cell 2
  have HB2 := Lib.hid (hB1.trans (hb2.mono hB1.size))
  have HR2 := Lib.hid hR2
  have HRW := Lib.hid (HR.out.kept HB2.out)
  have ha2 := HRW.out.take A.length (by omega)
  rw [HAT.out] at ha2
  have HA2 := Lib.hid ha2
  have HLR := Lib.hid hR2.lt
  clear hB1 hV1 hT1 hR1 hb2 hV2 hT2 hR2 ha2 HF
  go_wp2_with fail
  go_region
  go_wp2_with fail
  refine (concat_three w2 _ _ t A B HA2.out ?hB hbl _).mono ?_
  case hB =>
    rw [← HBD.out]
    have hlen : _ = _ := HLEN.out
    exact HRW.out.tail (A.length + 0) (by omega) (by omega) (by omega) (fun b' o' e h => by first | (cases e; simp; done) | (cases e; simp; rw [addAt]; done) | (cases e; simp; omega) | (subst e; simp; omega) | (subst e; simp; rw [addAt]; done) | omega)
  rintro y w3 ⟨v3, rfl, ho3, hb3⟩
  obtain ⟨p3, c3, hv3⟩ := ho3.form
  generalize (A ++ [t] ++ B).length = n3 at hv3
  subst hv3
  have hb3' : Below w2.heap.size w2 w3 := hb3
  have hres := HR2.out.below hb3' HLR.out
  have r0 : w3.cell? ⟨w.heap.size + 1 + 1, 0, none⟩ = some (.slice none 0 0) := hres.cell 0
  have fr0 := hres.free 0
  have lr := hres.lt
  have HO3 := Lib.hid ho3
  have HB := Lib.hid (HB2.out.trans (hb3'.mono HB2.out.size))
  have HR3 := Lib.hid hres
  clear ho3 hb3 hb3' hres
  go_wp2_with fail
  have hf := HR3.out.set 0 (.slice p3 n3 c3)
  refine bodyPost_ret (v := .agg #[.slice p3 n3 c3]) (by simp [results, Try.results44, go_sem, hf.cell 0]) rfl ⟨_, rfl,  (HO3.out.setLow (show w.heap.size + 1 + 1 < w2.heap.size + 1 from Nat.lt_succ_of_lt HLR.out) _).less (by have := HLR.out; omega), HB.out.setCell (p := ⟨w.heap.size + 1 + 1, 0, none⟩) (by show w.heap.size ≤ w.heap.size + 1 + 1; omega) _⟩
/-- A position put in, whatever was there. -/
theorem with_any (w : World) (v : Value) (ps A mid B : List Pos) (t : Pos) (hr : PRow w v ps) (hA : Around t ps A mid B) (hn : ps.length ≤ 1000) :
    Calls Try.prog 44 #[vecV v, posV t.e t.c t.a] w fun x w' => ∃ v', x = .returned (vecV v') ∧ OwnP w' w.heap.size 77 v' (A ++ (if t.a = 0 then [] else [t]) ++ B) ∧ Below w.heap.size w w' := by
  obtain ⟨pv, cv, rfl⟩ := hr.shape
  by_cases h0 : t.a = 0
  · rw [if_pos h0]
    have j0 : (t.a == 0) = true := by simpa using h0
    rcases hA.there with rfl | ⟨q, rfl, _⟩
    · by_cases hc : cv - A.length = 0
      · exact with_nzc w pv cv ps A B t hr hA hn j0 hc
      · exact with_nzo w pv cv ps A B t hr hA hn j0 hc
    · by_cases hc : cv - A.length = 1
      · exact with_fzc w pv cv ps A B q t hr hA hn j0 hc
      · exact with_fzo w pv cv ps A B q t hr hA hn j0 hc
  · rw [if_neg h0]
    have j0 : (t.a == 0) = false := by simpa using h0
    rcases hA.there with rfl | ⟨q, rfl, _⟩
    · by_cases hc : cv - A.length = 0
      · exact with_nac w pv cv ps A B t hr hA hn j0 hc
      · exact with_nao w pv cv ps A B t hr hA hn j0 hc
    · by_cases hc : cv - A.length = 1
      · exact with_fac w pv cv ps A B q t hr hA hn j0 hc
      · exact with_fao w pv cv ps A B q t hr hA hn j0 hc
end Go.Proofs.Ytillckkohdjkbaa
