/- contraref04.Int, Truth, List, End by contract. -/
import Derived.Test.YtbimbpmdiahhbaaRefNumber
import Derived.Test.YtbimbpmdiahhbaaReadI
namespace Go.Proofs.Ytbimbpmdiahhbaa
open Go.RowKit
theorem refnumber_any (s : ByteArray) (at_ : Nat) (e : Int) (w : World) (ha : e ≠ 0 ∨ at_ ≤ s.size) (hs : s.size ≤ 20000) :
    Calls Try.prog 28 #[rdV s at_ e] w (DocPost s at_ e w) := by
  by_cases he : e = 0
  · subst he
    exact refnumber_ok s at_ w (by omega) hs
  · exact refnumber_err s at_ e w he
theorem set3_blk {w : World} {g : Nat} {x0 x1 x2 y0 y1 y2 : Value} {T : TypeId} (h : Blk w g #[x0, x1, x2] T) : Blk (((w.setCell ⟨g, 0, none⟩ y0).setCell ⟨g, 1, none⟩ y1).setCell ⟨g, 2, none⟩ y2) g #[y0, y1, y2] T := ((h.set 0 y0).set 1 y1).set 2 y2
theorem set3_below {w0 w : World} {g B : Nat} {y0 y1 y2 : Value} (h : Below B w0 w) (hg : B ≤ g) : Below B w0 (((w.setCell ⟨g, 0, none⟩ y0).setCell ⟨g, 1, none⟩ y1).setCell ⟨g, 2, none⟩ y2) := ((h.setCell (p := ⟨g, 0, none⟩) hg _).setCell (p := ⟨g, 1, none⟩) hg _).setCell (p := ⟨g, 2, none⟩) hg _
/-- What Int answers. -/
def dIntE (xs : List Nat) (e a b : Int) : Int := if docE xs e = 0 ∧ outB (docV xs e) a b = true then 1 else docE xs e
def dIntV (xs : List Nat) (e a b : Int) : Int := if dIntE xs e a b = 0 then docV xs e else 0
def IntPost (s : ByteArray) (at_ : Nat) (e a b : Int) (w : World) (x : Ending) (w' : World) : Prop :=
  x = .returned (.tuple #[rdV s (docAt ((bytesOf s).drop at_) at_ e) (dIntE ((bytesOf s).drop at_) e a b), .int .i64 (dIntV ((bytesOf s).drop at_) e a b)]) ∧ Below w.heap.size w w'
set_option maxHeartbeats 4000000 in
set_option maxRecDepth 100000 in
theorem refint_any (s : ByteArray) (at_ : Nat) (e a b : Int) (w : World) (ha : e ≠ 0 ∨ at_ ≤ s.size) (hs : s.size ≤ 20000) :
    Calls Try.prog 27 #[rdV s at_ e, .int .i64 a, .int .i64 b] w (IntPost s at_ e a b w) := by
  have HN := Lib.hid (refnumber_any s at_ e · ha hs)
  unfold IntPost
  obtain ⟨xs, hxs⟩ : ∃ xs, xs = (bytesOf s).drop at_ := ⟨_, rfl⟩
  unfold DocPost at HN
  rw [← hxs] at HN ⊢
  clear hxs
  by_cases hE : docE xs e = 0
  · by_cases ho : outB (docV xs e) a b = true
    · have H1 : Hid (dIntE xs e a b = 1) := by show _ = _; unfold dIntE; rw [if_pos ⟨hE, ho⟩]
      have H2 : Hid (dIntV xs e a b = 0) := by show _ = _; unfold dIntV; rw [H1.out, if_neg (by decide)]
      have HE := Lib.hid hE
      unfold outB at ho
      generalize docAt xs at_ e = at2 at *
      clear hE
      unfold rdV at HN ⊢
      go_enter Try.func27, Try.ntmps27
      go_wp2_with fail
      refine (HN.out _).mono ?_
      rintro x w1 ⟨rfl, hb1⟩
      have hR := ((Blk.new' (w.alloc (.cells #[.string s, .int .i64 at_, .int .i64 e] 44)) #[.string ⟨#[]⟩, .int .i64 0, .int .i64 0] 44 (b := w.heap.size + 1) (by simp))).below hb1 (by simp)
      have hsz := hR.lt
      have c0 : w1.cell? ⟨w.heap.size + 1, 0, none⟩ = some (.string ⟨#[]⟩) := hR.cell 0
      have c1 : w1.cell? ⟨w.heap.size + 1, 1, none⟩ = some (.int .i64 0) := hR.cell 1
      have c2 : w1.cell? ⟨w.heap.size + 1, 2, none⟩ = some (.int .i64 0) := hR.cell 2
      have f0 := hR.free 0
      have f1 := hR.free 1
      have f2 := hR.free 2
      have HRB := Lib.hid hR
      have HB : Hid (Below w.heap.size w w1) := (((oneB w _).alloc (by simp) _).trans (hb1.mono (by simp; omega)))
      clear hb1 hR
      rw [HE.out]
      generalize docV xs e = v at *
      go_wp2_with fail
      all_goals
        have hf := (set3_blk (y0 := .string s) (y1 := .int .i64 at2) (y2 := .int .i64 1) HRB.out).alloc (.cells #[.string s, .int .i64 at2, .int .i64 1] 44)
        refine bodyPost_ret (v := .tuple #[rdV s at2 1, .int .i64 0]) (by simp [results, Try.results27, go_sem, rdV, hf.cell 0, hf.cell 1, hf.cell 2]) rfl ⟨by rw [H1.out, H2.out]; rfl, ?_⟩
        exact (set3_below HB.out (Nat.le_succ _)).alloc (by have := HB.out.size; simp; omega) _
    · have H1 : Hid (dIntE xs e a b = 0) := by show _ = _; unfold dIntE; rw [if_neg (fun h => ho h.2), hE]
      have H2 : Hid (dIntV xs e a b = docV xs e) := by show _ = _; unfold dIntV; rw [H1.out, if_pos rfl]
      have HE := Lib.hid hE
      unfold outB at ho
      have h1 : a ≤ docV xs e := by simp at ho; omega
      have h2 : docV xs e ≤ b := by simp at ho; omega
      generalize docAt xs at_ e = at2 at *
      clear hE ho
      unfold rdV at HN ⊢
      go_enter Try.func27, Try.ntmps27
      go_wp2_with fail
      refine (HN.out _).mono ?_
      rintro x w1 ⟨rfl, hb1⟩
      have hR := ((Blk.new' (w.alloc (.cells #[.string s, .int .i64 at_, .int .i64 e] 44)) #[.string ⟨#[]⟩, .int .i64 0, .int .i64 0] 44 (b := w.heap.size + 1) (by simp))).below hb1 (by simp)
      have hsz := hR.lt
      have c0 : w1.cell? ⟨w.heap.size + 1, 0, none⟩ = some (.string ⟨#[]⟩) := hR.cell 0
      have c1 : w1.cell? ⟨w.heap.size + 1, 1, none⟩ = some (.int .i64 0) := hR.cell 1
      have c2 : w1.cell? ⟨w.heap.size + 1, 2, none⟩ = some (.int .i64 0) := hR.cell 2
      have f0 := hR.free 0
      have f1 := hR.free 1
      have f2 := hR.free 2
      have HRB := Lib.hid hR
      have HB : Hid (Below w.heap.size w w1) := (((oneB w _).alloc (by simp) _).trans (hb1.mono (by simp; omega)))
      clear hb1 hR
      rw [HE.out]
      generalize docV xs e = v at *
      go_wp2_with fail
      all_goals
        have hf := (set3_blk (y0 := .string s) (y1 := .int .i64 at2) (y2 := .int .i64 0) HRB.out).alloc (.cells #[.string s, .int .i64 at2, .int .i64 0] 44)
        refine bodyPost_ret (v := .tuple #[rdV s at2 0, .int .i64 v]) (by simp [results, Try.results27, go_sem, rdV, hf.cell 0, hf.cell 1, hf.cell 2]) rfl ⟨by rw [H1.out, H2.out]; rfl, ?_⟩
        exact (set3_below HB.out (Nat.le_succ _)).alloc (by have := HB.out.size; simp; omega) _
  · have H1 : Hid (dIntE xs e a b = docE xs e) := by show _ = _; unfold dIntE; rw [if_neg (fun h => hE h.1)]
    have H2 : Hid (dIntV xs e a b = 0) := by show _ = _; unfold dIntV; rw [H1.out, if_neg hE]
    have hE1 : (docE xs e == 0) = false := by simpa using hE
    have hE2 : (docE xs e != 0) = true := by simpa using hE
    generalize docE xs e = q at *
    generalize docAt xs at_ e = at2 at *
    clear hE
    unfold rdV at HN ⊢
    go_enter Try.func27, Try.ntmps27
    go_wp2_with fail
    refine (HN.out _).mono ?_
    rintro x w1 ⟨rfl, hb1⟩
    have hR := ((Blk.new' (w.alloc (.cells #[.string s, .int .i64 at_, .int .i64 e] 44)) #[.string ⟨#[]⟩, .int .i64 0, .int .i64 0] 44 (b := w.heap.size + 1) (by simp))).below hb1 (by simp)
    have hsz := hR.lt
    have c0 : w1.cell? ⟨w.heap.size + 1, 0, none⟩ = some (.string ⟨#[]⟩) := hR.cell 0
    have c1 : w1.cell? ⟨w.heap.size + 1, 1, none⟩ = some (.int .i64 0) := hR.cell 1
    have c2 : w1.cell? ⟨w.heap.size + 1, 2, none⟩ = some (.int .i64 0) := hR.cell 2
    have f0 := hR.free 0
    have f1 := hR.free 1
    have f2 := hR.free 2
    have HRB := Lib.hid hR
    have HB : Hid (Below w.heap.size w w1) := (((oneB w _).alloc (by simp) _).trans (hb1.mono (by simp; omega)))
    clear hb1 hR
    generalize docV xs e = v at *
    go_wp2_with fail
    all_goals
      have hf := (set3_blk (y0 := .string s) (y1 := .int .i64 at2) (y2 := .int .i64 q) HRB.out).alloc (.cells #[.string s, .int .i64 at2, .int .i64 q] 44)
      refine bodyPost_ret (v := .tuple #[rdV s at2 q, .int .i64 0]) (by simp [results, Try.results27, go_sem, rdV, hf.cell 0, hf.cell 1, hf.cell 2]) rfl ⟨by rw [H1.out, H2.out]; rfl, ?_⟩
      exact (set3_below HB.out (Nat.le_succ _)).alloc (by have := HB.out.size; simp; omega) _
end Go.Proofs.Ytbimbpmdiahhbaa
