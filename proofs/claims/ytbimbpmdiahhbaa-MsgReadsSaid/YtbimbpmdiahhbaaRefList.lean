/- contraref04.Truth, List, End by contract. -/
import Derived.Test.YtbimbpmdiahhbaaRefInt
namespace Go.Proofs.Ytbimbpmdiahhbaa
open Go.RowKit
def dTE (xs : List Nat) (e : Int) : Int := if e = 0 then (if xs.length = 0 then 40 else if 1 < xs.getD 0 0 then 41 else 0) else e
def dTA (xs : List Nat) (at_ : Nat) (e : Int) : Nat := if e = 0 then (if xs.length = 0 then at_ else at_ + 1) else at_
def dTV (xs : List Nat) (e : Int) : Bool := if e = 0 then (if xs.length = 0 then false else decide (xs.getD 0 0 = 1)) else false
def TruthPost (s : ByteArray) (at_ : Nat) (e : Int) (w : World) (x : Ending) (w' : World) : Prop :=
  x = .returned (.tuple #[rdV s (dTA ((bytesOf s).drop at_) at_ e) (dTE ((bytesOf s).drop at_) e), .bool (dTV ((bytesOf s).drop at_) e)]) ∧ Below w.heap.size w w'
theorem two_below (w : World) (a b : Obj) : Below w.heap.size w ((w.alloc a).alloc b) := (oneB w a).alloc (by simp) b
set_option maxHeartbeats 4000000 in
set_option maxRecDepth 100000 in
theorem reftruth_any (s : ByteArray) (at_ : Nat) (e : Int) (w : World) (ha : e ≠ 0 ∨ at_ ≤ s.size) (hs : s.size ≤ 20000) :
    Calls Try.prog 29 #[rdV s at_ e] w (TruthPost s at_ e w) := by
  unfold TruthPost
  obtain ⟨xs, hxs⟩ : ∃ xs, xs = (bytesOf s).drop at_ := ⟨_, rfl⟩
  have hlen : xs.length = s.size - at_ := by rw [hxs, List.length_drop, bytesOf_len]
  have HGET : Hid (∀ (h : at_ < s.size), xs.getD 0 0 = s[at_].toNat) := by
    show ∀ (h : at_ < s.size), _
    intro h
    rw [hxs, drop_get, Nat.add_zero, bytesOf_get s _ h]
  rw [← hxs]
  clear hxs
  by_cases he : e = 0
  · subst he
    by_cases hz : xs.length = 0
    · have H1 : Hid (dTE xs 0 = 40 ∧ dTA xs at_ 0 = at_ ∧ dTV xs 0 = false) := by show _ ∧ _ ∧ _; unfold dTE dTA dTV; simp [hz]
      have hge : (s.size : Int) ≤ (at_ : Int) := by omega
      clear hz hlen
      unfold rdV
      go_enter Try.func29, Try.ntmps29
      go_wp2_with fail
      refine bodyPost_ret (v := .tuple #[rdV s at_ 40, .bool false]) (by simp [results, Try.results29, go_sem, rdV]) rfl ⟨by rw [H1.out.1, H1.out.2.1, H1.out.2.2]; rfl, two_below _ _ _⟩
    · have hlt : at_ < s.size := by omega
      have hge : (at_ : Int) < (s.size : Int) := by omega
      have hl := HGET.out hlt
      by_cases hb : 1 < s[at_].toNat
      · have H1 : Hid (dTE xs 0 = 41 ∧ dTA xs at_ 0 = at_ + 1 ∧ dTV xs 0 = ((s[at_].toNat : Int) == 1)) := by
          show _ ∧ _ ∧ _
          have e1 : ((s[at_].toNat : Int) == 1) = false := by simp; omega
          unfold dTE dTA dTV; rw [hl, e1]; simp [hz, hb]; omega
        have hb' : (1 : Int) < (s[at_].toNat : Int) := by omega
        clear hz hlen hl hb
        unfold rdV
        go_enter Try.func29, Try.ntmps29
        go_wp2_with fail
        refine bodyPost_ret (v := .tuple #[rdV s (at_ + 1) 41, .bool ((s[at_].toNat : Int) == 1)]) (by simp [results, Try.results29, go_sem, rdV]) rfl ⟨by rw [H1.out.1, H1.out.2.1, H1.out.2.2]; rfl, two_below _ _ _⟩
      · have H1 : Hid (dTE xs 0 = 0 ∧ dTA xs at_ 0 = at_ + 1 ∧ dTV xs 0 = ((s[at_].toNat : Int) == 1)) := by
          show _ ∧ _ ∧ _
          have e1 : ((s[at_].toNat : Int) == 1) = decide (s[at_].toNat = 1) := by by_cases h : s[at_].toNat = 1 <;> simp [h] <;> omega
          unfold dTE dTA dTV; rw [hl, e1]; simp [hz, hb]
        have hb' : (s[at_].toNat : Int) ≤ 1 := by omega
        clear hz hlen hl hb
        unfold rdV
        go_enter Try.func29, Try.ntmps29
        go_wp2_with fail
        refine bodyPost_ret (v := .tuple #[rdV s (at_ + 1) 0, .bool ((s[at_].toNat : Int) == 1)]) (by simp [results, Try.results29, go_sem, rdV]) rfl ⟨by rw [H1.out.1, H1.out.2.1, H1.out.2.2]; rfl, two_below _ _ _⟩
  · have H1 : Hid (dTE xs e = e ∧ dTA xs at_ e = at_ ∧ dTV xs e = false) := by show _ ∧ _ ∧ _; unfold dTE dTA dTV; simp [he]
    have he2 : (e != 0) = true := by simpa using he
    clear he
    unfold rdV
    go_enter Try.func29, Try.ntmps29
    go_wp2_with fail
    refine bodyPost_ret (v := .tuple #[rdV s at_ e, .bool false]) (by simp [results, Try.results29, go_sem, rdV]) rfl ⟨by rw [H1.out.1, H1.out.2.1, H1.out.2.2]; rfl, two_below _ _ _⟩
def dEE (xs : List Nat) (e : Int) : Int := if e = 0 then (if xs.length = 0 then 0 else 41) else e
set_option maxHeartbeats 4000000 in
set_option maxRecDepth 100000 in
theorem refend_any (s : ByteArray) (at_ : Nat) (e : Int) (w : World) :
    Calls Try.prog 13 #[rdV s at_ e] w fun x w' => x = .returned (rdV s at_ (dEE ((bytesOf s).drop at_) e)) ∧ Below w.heap.size w w' := by
  obtain ⟨xs, hxs⟩ : ∃ xs, xs = (bytesOf s).drop at_ := ⟨_, rfl⟩
  have hlen : xs.length = s.size - at_ := by rw [hxs, List.length_drop, bytesOf_len]
  rw [← hxs]
  clear hxs
  by_cases he : e = 0
  · subst he
    by_cases hz : xs.length = 0
    · have H1 : Hid (dEE xs 0 = 0) := by show _ = _; unfold dEE; simp [hz]
      have hge : (s.size : Int) ≤ (at_ : Int) := by omega
      clear hz hlen
      unfold rdV
      go_enter Try.func13, Try.ntmps13
      go_wp2_with fail
      refine bodyPost_ret (v := rdV s at_ 0) (by simp [results, Try.results13, go_sem, rdV]) rfl ⟨by rw [H1.out]; rfl, two_below _ _ _⟩
    · have H1 : Hid (dEE xs 0 = 41) := by show _ = _; unfold dEE; simp [hz]
      have hge : (at_ : Int) < (s.size : Int) := by omega
      clear hz hlen
      unfold rdV
      go_enter Try.func13, Try.ntmps13
      go_wp2_with fail
      refine bodyPost_ret (v := rdV s at_ 41) (by simp [results, Try.results13, go_sem, rdV]) rfl ⟨by rw [H1.out]; rfl, two_below _ _ _⟩
  · have H1 : Hid (dEE xs e = e) := by show _ = _; unfold dEE; simp [he]
    have he2 : (e == 0) = false := by simpa using he
    clear he
    unfold rdV
    go_enter Try.func13, Try.ntmps13
    go_wp2_with fail
    refine bodyPost_ret (v := rdV s at_ e) (by simp [results, Try.results13, go_sem, rdV]) rfl ⟨by rw [H1.out]; rfl, two_below _ _ _⟩
end Go.Proofs.Ytbimbpmdiahhbaa
