/- Vector.find, clone by contract. -/
import Derived.Test.YtillckkohdjkbaaSearch
import Derived.Test.YtillckkohdjkbaaPosApp
namespace Go.Proofs.Ytillckkohdjkbaa
open Go.RowKit
/-- A vector as a value. -/
def vecV (v : Value) : Value := .agg #[v]
theorem find_any (w : World) (v : Value) (ps A mid B : List Pos) (t : Pos) (hr : PRow w v ps) (hA : Around t ps A mid B) (hn : ps.length ≤ 1000) :
    Calls Try.prog 29 #[vecV v, posV t.e t.c t.a] w fun x w' => x = .returned (.tuple #[.int .i64 A.length, .bool (decide (mid ≠ []))]) ∧ Below w.heap.size w w' := by
  have HS := Lib.hid (fun (w' : World) (hb : Below w.heap.size w w') => search_any w' v ps A mid B t (hr.kept hb) hA hn)
  clear hr hA hn
  generalize decide (mid ≠ []) = fnd at HS ⊢
  unfold vecV posV at *
  have h2 : Below w.heap.size w ((w.alloc (.cells #[v] 50)).alloc (.cells #[.int .i64 t.e, .int .i64 t.c, .int .i64 t.a] 77)) := (oneB w _).alloc (by simp) _
  have H2 := Lib.hid h2
  clear h2
  go_enter Try.func29, Try.ntmps29
  go_wp2_with fail
  refine (HS.out _ H2.out).mono ?_
  rintro y w1 ⟨rfl, hb1⟩
  have HB := Lib.hid (H2.out.trans (hb1.mono H2.out.size))
  clear hb1
  go_wp2_with fail
  go_ret2
  exact ⟨rfl, HB.out⟩
theorem OwnP.less {w : World} {base base' : Nat} {e : TypeId} {v : Value} {ps : List Pos} (h : OwnP w base e v ps) (hb : base' ≤ base) : OwnP w base' e v ps := by
  refine ⟨h.1, ?_⟩
  rcases h.2 with h | ⟨g, cap, cur, rfl, hbg, hr⟩
  · exact .inl h
  · exact .inr ⟨g, cap, cur, rfl, by omega, hr⟩
theorem OwnP.setLow {w : World} {base : Nat} {e : TypeId} {v : Value} {ps : List Pos} (h : OwnP w base e v ps) {a : Addr} (ha : a.block < base) (u : Value) : OwnP (w.setCell a u) base e v ps := by
  refine ⟨h.1, ?_⟩
  rcases h.2 with h | ⟨g, cap, cur, rfl, hbg, hg, hr⟩
  · exact .inl h
  · exact .inr ⟨g, cap, cur, rfl, hbg, (Below.heap_setCell w a u g (by omega)).trans hg, hr⟩
theorem rows_one (w : World) (v : Value) (ps : List Pos) (hv : PRow w v ps) (T : TypeId) (b : Nat) (hb : b = w.heap.size) : RowsP (w.alloc (.cells #[v] T)) b 0 [v] [ps] := by
  subst hb
  refine ⟨rfl, fun i hi => ?_⟩
  obtain rfl : i = 0 := by simp at hi; omega
  exact ⟨(Blk.new w #[v] T).cell 0, hv.kept (oneB w _)⟩
set_option maxHeartbeats 2000000 in
theorem clone_vec (w : World) (v : Value) (ps : List Pos) (hr : PRow w v ps) (hn : ps.length ≤ 1000) :
    Calls Try.prog 42 #[vecV v] w fun x w' => ∃ v', x = .returned (vecV v') ∧ OwnP w' w.heap.size 77 v' ps ∧ Below w.heap.size w w' := by
  obtain ⟨pv, cv, rfl⟩ := hr.shape
  unfold vecV
  have h2 : Below w.heap.size w ((w.alloc (.cells #[.slice pv ps.length cv] 50)).alloc (.cells #[.slice none 0 0] 50)) := (oneB w _).alloc (by simp) _
  have hR := rows_one ((w.alloc (.cells #[.slice pv ps.length cv] 50)).alloc (.cells #[.slice none 0 0] 50)) (.slice pv ps.length cv) ps (hr.kept h2) 48 (w.heap.size + 1 + 1) (by simp)
  have HC := Lib.hid (concatP_any _ 0 1 1 [.slice pv ps.length cv] [ps] _ hR rfl (by omega) (by simp; omega))
  have HRES := Lib.hid ((Blk.new' (w.alloc (.cells #[.slice pv ps.length cv] 50)) #[.slice none 0 0] 50 (b := w.heap.size + 1) (by simp)).alloc (.cells #[.slice pv ps.length cv] 48))
  have H3 := Lib.hid (h2.alloc (by simp; omega) (.cells #[.slice pv ps.length cv] 48))
  rw [show [ps].flatten = ps by simp] at HC
  clear h2 hR hr
  go_enter Try.func42, Try.ntmps42
  go_wp2_with fail
  refine HC.out.mono ?_
  rintro y w1 ⟨v1, rfl, ho1, hb1⟩
  obtain ⟨p1, c1, rfl⟩ := ho1.form
  have hres := HRES.out.below hb1 HRES.out.lt
  have r0 : w1.cell? ⟨w.heap.size + 1, 0, none⟩ = some (.slice none 0 0) := hres.cell 0
  have fr0 := hres.free 0
  have lr := hres.lt
  have HO1 := Lib.hid ho1
  have HB := Lib.hid (H3.out.trans (hb1.mono H3.out.size))
  have HR1 := Lib.hid hres
  clear ho1 hb1 hres
  go_wp2_with fail
  have hf := HR1.out.set 0 (.slice p1 ps.length c1)
  refine bodyPost_ret (v := .agg #[.slice p1 ps.length c1]) (by simp [results, Try.results42, go_sem, hf.cell 0]) rfl ⟨_, rfl, (HO1.out.setLow (by simp <;> omega) _).less (by simp <;> omega), HB.out.setCell (p := ⟨w.heap.size + 1, 0, none⟩) (Nat.le_succ _) _⟩
def midA : List Pos → Int
  | [] => 0
  | q :: _ => q.a
theorem around_get {t q : Pos} {ps A B : List Pos} (h : Around t ps A [q] B) : ∃ hi : A.length < ps.length, ps[A.length] = q := by
  obtain ⟨rfl, _⟩ := h
  have hi : A.length < (A ++ [q] ++ B).length := by simp only [List.length_append, List.length_singleton]; omega
  refine ⟨hi, ?_⟩
  rw [List.getElem_of_eq (List.append_assoc A [q] B) hi, List.getElem_append_right (by omega)]; simp
set_option maxHeartbeats 2000000 in
theorem of_any (w : World) (v : Value) (ps A mid B : List Pos) (e c : Int) (hr : PRow w v ps) (hA : Around ⟨e, c, 0⟩ ps A mid B) (hn : ps.length ≤ 1000) :
    Calls Try.prog 13 #[vecV v, .int .i64 e, .int .i64 c] w fun x w' => x = .returned (.int .i64 (midA mid)) ∧ Below w.heap.size w w' := by
  have HF := Lib.hid (fun (w' : World) (hb : Below w.heap.size w w') => find_any w' v ps A mid B ⟨e, c, 0⟩ (hr.kept hb) hA hn)
  obtain ⟨pv, cv, rfl⟩ := hr.shape
  have HB0 := Lib.hid (oneB w (.cells #[.slice pv ps.length cv] 50))
  have HBX := Lib.hid (Blk.new w #[.slice pv ps.length cv] 50)
  unfold vecV posV at *
  rcases hA.there with rfl | ⟨q, rfl, _⟩
  · rw [show decide (([] : List Pos) ≠ []) = false by simp] at HF
    clear hA hr
    go_enter Try.func13, Try.ntmps13
    go_wp2_with fail
    refine (HF.out _ HB0.out).mono ?_
    rintro y w1 ⟨rfl, hb1⟩
    have HB := Lib.hid (HB0.out.trans (hb1.mono HB0.out.size))
    clear hb1
    go_wp2_with fail
    go_ret
    exact ⟨rfl, HB.out⟩
  · rw [show decide ([q] ≠ []) = true by simp] at HF
    obtain ⟨hi, hq⟩ := around_get hA
    obtain ⟨b, o, rfl, hbl, h0, h1, h2⟩ := hr.at_ A.length hi
    rw [hq] at h2
    have hcap : ((A.length : Nat) : Int) < (ps.length : Int) := by omega
    have H2 := Lib.hid h2
    have HBL := Lib.hid hbl
    have hsz : (midA [q]) = q.a := rfl
    rw [hsz]
    clear hA hr hq h0 h1 h2 hbl hi hsz
    go_enter Try.func13, Try.ntmps13
    go_wp2_with fail
    refine (HF.out _ HB0.out).mono ?_
    rintro y w1 ⟨rfl, hb1⟩
    have hbx := HBX.out.below hb1 HBX.out.lt
    have v0 : w1.cell? ⟨w.heap.size, 0, none⟩ = some (.slice (some ⟨b, o, none⟩) ps.length cv) := hbx.cell 0
    have HB := Lib.hid (HB0.out.trans (hb1.mono HB0.out.size))
    have q2 := (HB.out.cell (p := ⟨b, o + A.length * 3 + 2, none⟩) HBL.out).trans H2.out
    clear hb1 hbx
    go_wp2_with fail
    go_ret
    exact ⟨rfl, HB.out⟩
end Go.Proofs.Ytillckkohdjkbaa
