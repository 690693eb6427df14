/- code.Bool by contract; rows of numbers and truths as bytes. -/
import Derived.Test.YtngelpjibgiifaaCodeFacts
namespace Go.Proofs.Ytngelpjibgiifaa
open Go.RowKit
def bitI (x : Bool) : Int := if x then 1 else 0
set_option maxHeartbeats 1000000 in
set_option maxRecDepth 100000 in
theorem wbool_any (vb : Value) (zs : List Int) (x : Bool) (w : World) (hrow : Row .u8 w vb zs) (hl : zs.length ≤ 140737488354000) :
    Calls Try.prog 26 #[vb, .bool x] w fun y w' => ∃ v, y = .returned v ∧ Own .u8 w' w.heap.size 5 v (zs ++ [bitI x]) ∧ Below w.heap.size w w' := by
  obtain ⟨pb, cb, rfl⟩ := hrow.shape
  have HROW := Lib.hid hrow
  have HL := Lib.hid hl
  clear hrow hl
  cases x
  · have HR := Lib.hid (Rows8.two (w.alloc (.cells #[.int .u8 0] 5)) 22 (w.heap.size + 1) (by simp) _ _ zs [0] (HROW.out.under (oneB w _) (Nat.le_refl _)) (Row.laid .u8 w 5 [0] #[.int .u8 0] rfl (0, 0) 1 1 rfl (Nat.le_refl _)))
    go_enter Try.func26, Try.ntmps26
    go_wp2_with fail
    refine (concat8_any _ 0 2 _ _ _ _ HR.out rfl (by decide) (by have := HL.out; simp; omega)).mono ?_
    rintro y w2 ⟨v2, rfl, ho2, hb2⟩
    have HO2 := Lib.hid ho2
    have HB2 := Lib.hid hb2
    clear ho2 hb2
    go_wp2_with fail
    go_ret
    refine ⟨_, rfl, own_down (by simpa [bitI] using HO2.out) ?_, ((oneB w _).alloc (by simp) _).trans (HB2.out.mono (by simp; omega))⟩
    omega
  · have HR := Lib.hid (Rows8.two (w.alloc (.cells #[.int .u8 1] 5)) 22 (w.heap.size + 1) (by simp) _ _ zs [1] (HROW.out.under (oneB w _) (Nat.le_refl _)) (Row.laid .u8 w 5 [1] #[.int .u8 1] rfl (0, 0) 1 1 rfl (Nat.le_refl _)))
    go_enter Try.func26, Try.ntmps26
    go_wp2_with fail
    refine (concat8_any _ 0 2 _ _ _ _ HR.out rfl (by decide) (by have := HL.out; simp; omega)).mono ?_
    rintro y w2 ⟨v2, rfl, ho2, hb2⟩
    have HO2 := Lib.hid ho2
    have HB2 := Lib.hid hb2
    clear ho2 hb2
    go_wp2_with fail
    go_ret
    refine ⟨_, rfl, own_down (by simpa [bitI] using HO2.out) ?_, ((oneB w _).alloc (by simp) _).trans (HB2.out.mono (by simp; omega))⟩
    omega
/-- Numbers, each with a truth behind it as long as there are any. -/
def encFrom : List Int → List Bool → List Int
  | [], _ => []
  | z :: zs, [] => numL z ++ encFrom zs []
  | z :: zs, b :: bs => numL z ++ (bitI b :: encFrom zs bs)
theorem enc_one {zs : List Int} {bs : List Bool} {k : Nat} (hk : k < zs.length) (hb : ¬ k < bs.length) : encFrom (zs.drop k) (bs.drop k) = numL (zs.getD k 0) ++ encFrom (zs.drop (k + 1)) (bs.drop (k + 1)) := by
  have e1 : bs.drop k = [] := List.drop_eq_nil_of_le (by omega)
  have e2 : bs.drop (k + 1) = [] := List.drop_eq_nil_of_le (by omega)
  rw [List.drop_eq_getElem_cons hk, e1, e2, encFrom, List.getD_eq_getElem?_getD, List.getElem?_eq_getElem hk]; rfl
theorem enc_two {zs : List Int} {bs : List Bool} {k : Nat} (hk : k < zs.length) (hb : k < bs.length) : encFrom (zs.drop k) (bs.drop k) = numL (zs.getD k 0) ++ (bitI (bs.getD k false) :: encFrom (zs.drop (k + 1)) (bs.drop (k + 1))) := by
  rw [List.drop_eq_getElem_cons hk, List.drop_eq_getElem_cons hb, encFrom, List.getD_eq_getElem?_getD, List.getElem?_eq_getElem hk, List.getD_eq_getElem?_getD, List.getElem?_eq_getElem hb]; rfl
theorem enc_done {zs : List Int} {bs : List Bool} {k : Nat} (hk : zs.length ≤ k) : encFrom (zs.drop k) (bs.drop k) = [] := by
  rw [List.drop_eq_nil_of_le hk, encFrom]
theorem bit_oct (b : Bool) : 0 ≤ bitI b ∧ bitI b < 256 := by cases b <;> simp [bitI]
theorem enc_oct (zs : List Int) (bs : List Bool) : Oct (encFrom zs bs) := by
  induction zs generalizing bs with
  | nil => intro a ha; simp [encFrom] at ha
  | cons z zs ih =>
    cases bs with
    | nil => exact (numL_oct z).append (ih [])
    | cons b bs =>
      refine (numL_oct z).append ?_
      intro a ha
      rcases List.mem_cons.1 ha with rfl | ha
      · exact bit_oct b
      · exact ih bs a ha
theorem enc_len (zs : List Int) (bs : List Bool) (h : ∀ a ∈ zs, -9223372036854775808 ≤ a ∧ a ≤ 9223372036854775807) : (encFrom zs bs).length ≤ 11 * zs.length := by
  induction zs generalizing bs with
  | nil => simp [encFrom]
  | cons z zs ih =>
    have h1 := h z (by simp)
    have h2 := numL_len h1.1 h1.2
    cases bs with
    | nil =>
      have := ih [] (fun a ha => h a (by simp [ha]))
      simp only [encFrom, List.length_append, List.length_cons]; omega
    | cons b bs =>
      have := ih bs (fun a ha => h a (by simp [ha]))
      simp only [encFrom, List.length_append, List.length_cons]; omega
/-- A truth that was written. -/
theorem bool_of (x : Bool) (ys : List Int) : boolE (bitI x :: ys) 0 = 0 ∧ boolV (bitI x :: ys) 0 = x ∧ boolR (bitI x :: ys) 0 = ys := by
  have h : takeE (bitI x :: ys) 0 1 = 0 := by unfold takeE; simp
  refine ⟨?_, ?_, ?_⟩
  · unfold boolE; rw [if_pos h]; cases x <;> simp [bitI]
  · unfold boolV; rw [if_pos h]; cases x <;> simp [bitI]
  · unfold boolR; rw [if_pos h]; rfl
end Go.Proofs.Ytngelpjibgiifaa
