/- contraref04.List by contract. -/
import Derived.Test.YtngelpjibgiifaaRefList
namespace Go.Proofs.Ytngelpjibgiifaa
open Go.RowKit
def dLN (xs : List Nat) (e : Int) : Nat := (dIntV xs e 0 16384).toNat
def dLE (s : ByteArray) (xs : List Nat) (at_ : Nat) (e : Int) : Int := if dIntE xs e 0 16384 = 0 then (if s.size < docAt xs at_ e + dLN xs e then 40 else 0) else dIntE xs e 0 16384
def dLA (s : ByteArray) (xs : List Nat) (at_ : Nat) (e : Int) : Nat := if dLE s xs at_ e = 0 then docAt xs at_ e + dLN xs e else docAt xs at_ e
def dLV (s : ByteArray) (xs : List Nat) (at_ : Nat) (e : Int) : ByteArray := if dLE s xs at_ e = 0 then s.extract (docAt xs at_ e) (docAt xs at_ e + dLN xs e) else ⟨#[]⟩
theorem docAt_le {s : ByteArray} {xs : List Nat} {at_ : Nat} {e : Int} (hl : xs.length = s.size - at_) (ha : at_ ≤ s.size) : docAt xs at_ e ≤ s.size := by
  unfold docAt
  rw [doc_read]
  have := (readP_size xs 0 0).1
  unfold readL
  split
  · split <;> omega
  · exact ha
theorem dLN_ok {xs : List Nat} {e : Int} (h : dIntE xs e 0 16384 = 0) : dIntV xs e 0 16384 = (dLN xs e : Nat) ∧ dLN xs e ≤ 16384 := by
  have hV : dIntV xs e 0 16384 = docV xs e := by unfold dIntV; rw [if_pos h]
  have hb : 0 ≤ docV xs e ∧ docV xs e ≤ 16384 := by
    unfold dIntE at h
    by_cases hc : docE xs e = 0 ∧ outB (docV xs e) 0 16384 = true
    · rw [if_pos hc] at h; cases h
    · rw [if_neg hc] at h
      have ho : ¬ outB (docV xs e) 0 16384 = true := fun ho => hc ⟨h, ho⟩
      unfold outB at ho
      simp at ho; omega
  unfold dLN
  rw [hV]; omega
set_option maxHeartbeats 4000000 in
set_option maxRecDepth 100000 in
theorem reflist_any (s : ByteArray) (at_ : Nat) (e : Int) (w : World) (ha : at_ ≤ s.size) (hs : s.size ≤ 20000) :
    Calls Try.prog 19 #[rdV s at_ e] w fun x w' => x = .returned (.tuple #[rdV s (dLA s ((bytesOf s).drop at_) at_ e) (dLE s ((bytesOf s).drop at_) at_ e), .string (dLV s ((bytesOf s).drop at_) at_ e)]) ∧ Below w.heap.size w w' := by
  have HN := Lib.hid (refint_any s at_ e 0 16384 · (Or.inr ha) hs)
  obtain ⟨xs, hxs⟩ : ∃ xs, xs = (bytesOf s).drop at_ := ⟨_, rfl⟩
  have hlen : xs.length = s.size - at_ := by rw [hxs, List.length_drop, bytesOf_len]
  have hat := docAt_le (e := e) hlen ha
  unfold IntPost at HN
  rw [← hxs] at HN ⊢
  clear hxs hlen
  by_cases hE : dIntE xs e 0 16384 = 0
  · obtain ⟨hv1, hv2⟩ := dLN_ok hE
    by_cases hlong : s.size < docAt xs at_ e + dLN xs e
    · have H1 : Hid (dLE s xs at_ e = 40) := by show _ = _; unfold dLE; rw [if_pos hE, if_pos hlong]
      have H2 : Hid (dLA s xs at_ e = docAt xs at_ e ∧ dLV s xs at_ e = ⟨#[]⟩) := by show _ ∧ _; unfold dLA dLV; rw [H1.out]; exact ⟨if_neg (by decide), if_neg (by decide)⟩
      have HE := Lib.hid hE
      have HV := Lib.hid hv1
      generalize docAt xs at_ e = at2 at *
      generalize dLN xs e = n at *
      clear hE hv1
      have hl2 : (s.size : Int) - (at2 : Int) < (n : Int) := by omega
      unfold rdV at HN ⊢
      go_enter Try.func19, Try.ntmps19
      go_wp2_with fail
      refine (HN.out _).mono ?_
      rintro x w1 ⟨rfl, hb1⟩
      rw [HE.out, HV.out]
      have hT := ((Blk.new w #[.string s, .int .i64 at_, .int .i64 e] 28).alloc (.cells #[.string ⟨#[]⟩, .int .i64 0, .int .i64 0] 28)).below hb1 (by simp; omega)
      have hR := ((Blk.new' (w.alloc (.cells #[.string s, .int .i64 at_, .int .i64 e] 28)) #[.string ⟨#[]⟩, .int .i64 0, .int .i64 0] 28 (b := w.heap.size + 1) (by simp))).below hb1 (by simp)
      have hsz := hR.lt
      have hsz2 := hT.lt
      have t0 : w1.cell? ⟨w.heap.size, 0, none⟩ = some (.string s) := hT.cell 0
      have c0 : w1.cell? ⟨w.heap.size + 1, 0, none⟩ = some (.string ⟨#[]⟩) := hR.cell 0
      have c1 : w1.cell? ⟨w.heap.size + 1, 1, none⟩ = some (.int .i64 0) := hR.cell 1
      have c2 : w1.cell? ⟨w.heap.size + 1, 2, none⟩ = some (.int .i64 0) := hR.cell 2
      have f0 := hR.free 0
      have f1 := hR.free 1
      have f2 := hR.free 2
      have HRB := Lib.hid hR
      have HB : Hid (Below w.heap.size w w1) := (((oneB w _).alloc (by simp) _).trans (hb1.mono (by simp; omega)))
      clear hb1 hR hT
      go_wp2_with fail
      all_goals
        have hf := (set3_blk (y0 := .string s) (y1 := .int .i64 at2) (y2 := .int .i64 40) HRB.out).alloc (.cells #[.string s, .int .i64 at2, .int .i64 40] 28)
        refine bodyPost_ret (v := .tuple #[rdV s at2 40, .string ⟨#[]⟩]) (by simp [results, Try.results19, go_sem, rdV, hf.cell 0, hf.cell 1, hf.cell 2]) rfl ⟨by rw [H1.out, H2.out.1, H2.out.2]; rfl, ?_⟩
        exact (set3_below HB.out (Nat.le_succ _)).alloc (by have := HB.out.size; simp; omega) _
    · have H1 : Hid (dLE s xs at_ e = 0) := by show _ = _; unfold dLE; rw [if_pos hE, if_neg hlong]
      have H2 : Hid (dLA s xs at_ e = docAt xs at_ e + dLN xs e ∧ dLV s xs at_ e = s.extract (docAt xs at_ e) (docAt xs at_ e + dLN xs e)) := by show _ ∧ _; unfold dLA dLV; rw [H1.out]; exact ⟨if_pos rfl, if_pos rfl⟩
      have HE := Lib.hid hE
      have HV := Lib.hid hv1
      generalize docAt xs at_ e = at2 at *
      generalize dLN xs e = n at *
      clear hE hv1
      have hl2 : (n : Int) ≤ (s.size : Int) - (at2 : Int) := by omega
      have hl3 : at2 + n ≤ s.size := by omega
      unfold rdV at HN ⊢
      go_enter Try.func19, Try.ntmps19
      go_wp2_with fail
      refine (HN.out _).mono ?_
      rintro x w1 ⟨rfl, hb1⟩
      rw [HE.out, HV.out]
      have hT := ((Blk.new w #[.string s, .int .i64 at_, .int .i64 e] 28).alloc (.cells #[.string ⟨#[]⟩, .int .i64 0, .int .i64 0] 28)).below hb1 (by simp; omega)
      have hR := ((Blk.new' (w.alloc (.cells #[.string s, .int .i64 at_, .int .i64 e] 28)) #[.string ⟨#[]⟩, .int .i64 0, .int .i64 0] 28 (b := w.heap.size + 1) (by simp))).below hb1 (by simp)
      have hsz := hR.lt
      have hsz2 := hT.lt
      have t0 : w1.cell? ⟨w.heap.size, 0, none⟩ = some (.string s) := hT.cell 0
      have c0 : w1.cell? ⟨w.heap.size + 1, 0, none⟩ = some (.string ⟨#[]⟩) := hR.cell 0
      have c1 : w1.cell? ⟨w.heap.size + 1, 1, none⟩ = some (.int .i64 0) := hR.cell 1
      have c2 : w1.cell? ⟨w.heap.size + 1, 2, none⟩ = some (.int .i64 0) := hR.cell 2
      have f0 := hR.free 0
      have f1 := hR.free 1
      have f2 := hR.free 2
      have HRB := Lib.hid hR
      have HB : Hid (Below w.heap.size w w1) := (((oneB w _).alloc (by simp) _).trans (hb1.mono (by simp; omega)))
      clear hb1 hR hT
      go_wp2_with fail
      all_goals
        have hf := (set3_blk (y0 := .string s) (y1 := .int .i64 ((at2 : Int) + (n : Int))) (y2 := .int .i64 0) HRB.out).alloc (.cells #[.string s, .int .i64 ((at2 : Int) + (n : Int)), .int .i64 0] 28)
        refine bodyPost_ret (v := .tuple #[rdV s (at2 + n) 0, .string (s.extract at2 (at2 + n))]) (by simp [results, Try.results19, go_sem, rdV, hf.cell 0, hf.cell 1, hf.cell 2]) rfl ⟨by rw [H1.out, H2.out.1, H2.out.2]; rfl, ?_⟩
        exact (set3_below HB.out (Nat.le_succ _)).alloc (by have := HB.out.size; simp; omega) _
  · have H1 : Hid (dLE s xs at_ e = dIntE xs e 0 16384) := by show _ = _; unfold dLE; rw [if_neg hE]
    have H2 : Hid (dLA s xs at_ e = docAt xs at_ e ∧ dLV s xs at_ e = ⟨#[]⟩) := by show _ ∧ _; unfold dLA dLV; rw [H1.out]; exact ⟨if_neg hE, if_neg hE⟩
    have hE1 : (dIntE xs e 0 16384 == 0) = false := by simpa using hE
    have hE2 : (dIntE xs e 0 16384 != 0) = true := by simpa using hE
    generalize dIntE xs e 0 16384 = q at *
    generalize docAt xs at_ e = at2 at *
    clear hE
    unfold rdV at HN ⊢
    go_enter Try.func19, Try.ntmps19
    go_wp2_with fail
    refine (HN.out _).mono ?_
    rintro x w1 ⟨rfl, hb1⟩
    have hR := ((Blk.new' (w.alloc (.cells #[.string s, .int .i64 at_, .int .i64 e] 28)) #[.string ⟨#[]⟩, .int .i64 0, .int .i64 0] 28 (b := w.heap.size + 1) (by simp))).below hb1 (by simp)
    have hsz := hR.lt
    have c0 : w1.cell? ⟨w.heap.size + 1, 0, none⟩ = some (.string ⟨#[]⟩) := hR.cell 0
    have c1 : w1.cell? ⟨w.heap.size + 1, 1, none⟩ = some (.int .i64 0) := hR.cell 1
    have c2 : w1.cell? ⟨w.heap.size + 1, 2, none⟩ = some (.int .i64 0) := hR.cell 2
    have f0 := hR.free 0
    have f1 := hR.free 1
    have f2 := hR.free 2
    have HRB := Lib.hid hR
    have HB : Hid (Below w.heap.size w w1) := (((oneB w _).alloc (by simp) _).trans (hb1.mono (by simp; omega)))
    clear hb1 hR
    generalize dIntV xs e 0 16384 = v at *
    go_wp2_with fail
    all_goals
      have hf := (set3_blk (y0 := .string s) (y1 := .int .i64 at2) (y2 := .int .i64 q) HRB.out).alloc (.cells #[.string s, .int .i64 at2, .int .i64 q] 28)
      refine bodyPost_ret (v := .tuple #[rdV s at2 q, .string ⟨#[]⟩]) (by simp [results, Try.results19, go_sem, rdV, hf.cell 0, hf.cell 1, hf.cell 2]) rfl ⟨by rw [H1.out, H2.out.1, H2.out.2]; rfl, ?_⟩
      exact (set3_below HB.out (Nat.le_succ _)).alloc (by have := HB.out.size; simp; omega) _
end Go.Proofs.Ytngelpjibgiifaa
