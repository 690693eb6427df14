/- contraref01.Text: an amount's text, written out digit by digit. -/
import Derived.Test.YtgdcegkokbkdfaaDoorText
import Derived.Test.YtgdcegkokbkdfaaDoorRefSum
import Derived.Test.YtgdcegkokbkdfaaDoorStep
import Derived.Deep.RegionLaw
import Derived.Deep.AppendSrc
namespace Go.Proofs.YtgdcegkokbkdfaaDoor
open Go.RowKit Go.Lib

/-- Digits with noughts at the end, three at least. -/
def pad3 : List Int → List Int
  | [] => [0, 0, 0]
  | [a] => [a, 0, 0]
  | [a, b] => [a, b, 0]
  | l => l
/-- The letter of a digit. -/
def letter (d : Int) : UInt8 := UInt8.ofNat (48 + d.toNat)
/-- The text of the digits from place i on, behind what is there. -/
def backL : List Int → Nat → List UInt8 → List UInt8
  | [], _, s => s
  | d :: t, i, s => backL t (i + 1) (if i = 1 then 46 :: letter d :: s else letter d :: s)

theorem letter_nat (k : Nat) (_h : k < 10) : letter (k : Int) = UInt8.ofNat (48 + k) := by unfold letter; simp
theorem rev_digs (n : Nat) (h : 1 ≤ n) : ((digs n).map letter).reverse = Lib.decDigits n := by
  induction n using Nat.strongRecOn with
  | _ n ih =>
    rw [digs_pos (by omega), List.map_cons, List.reverse_cons, letter_nat _ (by omega), Lib.decDigits]
    split
    · rename_i h10
      rw [show n / 10 = 0 by omega, digs_zero, show n % 10 = n by omega]; rfl
    · rw [ih (n / 10) (by omega) (by omega)]
theorem backL_two (t : List Int) (i : Nat) (s : List UInt8) (hi : 2 ≤ i) : backL t i s = (t.map letter).reverse ++ s := by
  induction t generalizing i s with
  | nil => rfl
  | cons d t ih => rw [backL, if_neg (by omega), ih (i + 1) _ (by omega)]; simp
theorem backL_all (n : Nat) : backL (pad3 (digs n)) 0 [] = tailL n := by
  have key : ∀ (x y : Int) (t : List Int), backL (x :: y :: t) 0 [] = (t.map letter).reverse ++ [46, letter y, letter x] := fun x y t => by
    simp only [backL]
    rw [backL_two _ _ _ (by omega)]; simp
  unfold tailL
  by_cases h0 : n = 0
  · subst h0
    rw [digs_zero, pad3, key, Lib.decDigits_one (by decide)]; decide
  · rw [digs_pos h0]
    by_cases h1 : n / 10 = 0
    · rw [h1, digs_zero, pad3, key, letter_nat _ (by omega), show n / 100 = 0 by omega, Lib.decDigits_one (by decide), show n % 100 / 10 = 0 by omega, show n % 100 % 10 = n % 10 by omega]; rfl
    · rw [digs_pos h1]
      by_cases h2 : n / 10 / 10 = 0
      · rw [h2, digs_zero, pad3, key, letter_nat _ (by omega), letter_nat _ (by omega), show n / 100 = 0 by omega, Lib.decDigits_one (by decide), show n % 100 / 10 = n / 10 % 10 by omega, show n % 100 % 10 = n % 10 by omega]; rfl
      · have e : pad3 (((n % 10 : Nat) : Int) :: ((n / 10 % 10 : Nat) : Int) :: digs (n / 10 / 10)) = ((n % 10 : Nat) : Int) :: ((n / 10 % 10 : Nat) : Int) :: digs (n / 10 / 10) := by
          rw [digs_pos h2]; rfl
        rw [e, key, rev_digs _ (by omega), letter_nat _ (by omega), letter_nat _ (by omega), show n / 10 / 10 = n / 100 by omega, show n % 100 / 10 = n / 10 % 10 by omega, show n % 100 % 10 = n % 10 by omega]
theorem pad3_snoc {l : List Int} (h : l.length < 3) : pad3 (l ++ [0]) = pad3 l := by
  match l, h with
  | [], _ => rfl
  | [a], _ => rfl
  | [a, b], _ => rfl
theorem pad3_long {l : List Int} (h : 3 ≤ l.length) : pad3 l = l := by
  match l, h with
  | a :: b :: c :: t, _ => rfl

/-- What the first loop keeps: the digits and some noughts. -/
def vlen : Value → Nat | .slice _ n _ => n | _ => 0
def PadRel (n : Nat) (w1 : World) (xs : List Int) (v : Value) (wr : World) : Prop :=
  pad3 xs = pad3 (digs n) ∧ IsDigs xs ∧ xs.length ≤ 25 ∧ wr.ownsRow (w1.heap.size + 1) 3 1 v xs.length (xs.map (Value.int .i64)) ∧ Below w1.heap.size w1 wr ∧ w1.heap.size + 1 ≤ wr.heap.size
theorem PadRel.step {n : Nat} {w1 wr w2 : World} {xs : List Int} {v v' : Value} (h : PadRel n w1 xs v wr) (hl : xs.length < 3) (o : Obj)
    (hown : w2.ownsRow (w1.heap.size + 1) 3 1 v' (xs.length + 1) (xs.map (Value.int .i64) ++ [.int .i64 0])) (hg : (wr.alloc o).grownBy w2 v.ownBlock) : PadRel n w1 (xs ++ [0]) v' w2 := by
  obtain ⟨h1, h2, h3, h4, h5, h6⟩ := h
  refine ⟨by rw [pad3_snoc hl, h1], fun d hd => ?_, by simp; omega, by simpa using hown, (h5.alloc (by omega) o).grown hg (by simp; omega) (fun k hk => by have := (h4.lt k hk).1; omega), ?_⟩
  · rcases List.mem_append.1 hd with hd | hd
    · exact h2 d hd
    · simp at hd; subst hd; decide
  · have := hg.size; simp at this; omega
theorem letter_conv (W : World) (d : Int) (hd : 0 ≤ d ∧ d ≤ 9) : (convert 62 9 (.slice (some ⟨W.heap.size, 0, none⟩) 1 1)).run Tryd.prog (W.alloc (.cells #[.int .u8 (48 + d)] 5)) =
    .ok (.string ⟨#[letter d]⟩) (W.alloc (.cells #[.int .u8 (48 + d)] 5)) := by
  refine run_convert_bytes_back (P := Tryd.prog) _ 62 9 5 ⟨W.heap.size, 0, none⟩ 1 [letter d] Tryd.underlying62 Tryd.underlying5 Tryd.underlying9 (fun j hj => ?_)
  rw [Lib.add_plain, (Blk.new W _ _).cell]
  match j, hj with
  | 0, _ =>
    show some (Value.int .u8 (48 + d)) = some (Value.int .u8 ((UInt8.ofNat (48 + d.toNat)).toNat : Int))
    congr 2
    rw [UInt8.toNat_ofNat']; omega
theorem joined (a b : List UInt8) : (ByteArray.mk a.toArray ++ ByteArray.mk b.toArray) = ⟨(a ++ b).toArray⟩ := ByteArray.mk_append_mk ..
theorem textL_zero : textL 0 = tailL 0 := by rw [textL, if_neg (by omega)]; rfl
theorem textL_nonneg {a : Int} (h : 0 ≤ a) : textL a = tailL a.natAbs := by rw [textL, if_neg (by omega)]; rfl
theorem textL_minus {a : Int} (h : a < 0) : textL a = 45 :: tailL a.natAbs := by rw [textL, if_pos h]; rfl
theorem ints_cellz (zs : List Int) : ∀ u ∈ zs.map (Value.int .i64), u.oneCell' = true := by
  intro u hu
  obtain ⟨x, _, rfl⟩ := List.mem_map.1 hu
  rfl
theorem Row.whole {w : World} {b o n c : Nat} {zs : List Int} (h : Row .i64 w (.slice (some ⟨b, o, none⟩) n c) zs) (w' : World) (hb : Below w.heap.size w w') :
    ∀ (j : Nat) (u : Value), (zs.map (Value.int .i64))[j]? = some u → w'.cell? ((⟨b, o, none⟩ : Addr).add j) = some u := by
  intro j u hj
  have hk := h.kept hb
  clear h
  obtain ⟨p', c', e, _, h⟩ := hk
  cases e
  have hjl : j < zs.length := by
    rcases Nat.lt_or_ge j zs.length with h | h
    · exact h
    · rw [List.getElem?_eq_none (by simp; omega)] at hj; cases hj
  rcases h with rfl | ⟨b', o', e, h⟩
  · simp at hj
  · cases e
    have hc := h j hjl
    rw [List.getElem?_map, List.getElem?_eq_getElem hjl] at hj
    rw [List.getD_eq_getElem?_getD, List.getElem?_eq_getElem hjl] at hc
    rw [Lib.add_plain, hc]
    simpa using hj
theorem joined1 (a : UInt8) (b : List UInt8) : (ByteArray.mk #[a] ++ ByteArray.mk b.toArray) = ⟨(a :: b).toArray⟩ := ByteArray.mk_append_mk [a] b
theorem wpList_append_zero {P : Program} {w : World} {ops : Array Oper} {rest : List Oper} {o : Oper} {a : Act} {Q : Exit → Act → World → Prop} (hgd : o.guard = none) (s x : Operand) (t : TypeId)
    (ho : o.op = .call { callee := .builtin .append, args := #[s, x], argTypes := #[t, t] })
    (e : TypeId) (i : TypeInfo) (ht : P.underlying t = some (.slice e)) (hi : P.info? e = some i)
    (b : Nat) (p : Option Addr) (c : Nat) (hs : a.eval s = .slice (some ⟨b, 0, none⟩) 0 0) (hx : a.eval x = .slice p 0 c)
    (h : wpList P ops Q rest (a.put o.dst (.slice (some ⟨b, 0, none⟩) 0 0)) w) : wpList P ops Q (o :: rest) a w := by
  refine wpList_plain hgd fun K hK => ?_
  have hsrc : Src P i.size t (.slice p 0 c) 0 [] w := by
    cases p with
    | none => exact Src.ofNil (w := w) ht c
    | some ad => exact Src.ofSlice (w := w) ht ad 0 c [] (by simp) (fun j u hj => by simp at hj) (fun u hu => by cases hu)
  have hrun := run_append_room_src (P := P) (w := w) t t o.type e i ht hi b 0 0 0 (.slice p 0 c) 0 [] hsrc (by omega) (fun j hj => by simp at hj) (fun j hj => by simp at hj)
  unfold Oper.wp
  simp [execOp, ho, resolve, invoke, builtin, hs, hx, hrun, Result.andThen, World.setCells]
  exact hK _ _ h

set_option maxHeartbeats 2000000 in
set_option maxRecDepth 100000 in
theorem reftext_zero (w : World) :
    Calls Tryd.prog 21 #[.int .i64 0] w fun e w' => e = .returned (.string ⟨(textL 0).toArray⟩) ∧ Below w.heap.size w w' := by
  obtain ⟨i0, hi, hz0, hz1, hz2⟩ := info_parts info_int
  go_enter Tryd.func21, Tryd.ntmps21
  go_wp2_with fail
  refine (from_any 0 w (by unfold Fits; decide)).mono ?_
  rintro e w1 ⟨v1, rfl, hbig, hb1⟩
  obtain ⟨s1, e1, hrow⟩ := id hbig
  subst e1
  obtain ⟨p, c, rfl⟩ := hrow.form
  rw [show decide ((0 : Int) < 0) = false from rfl, show (digs (Int.natAbs 0)).length = 0 by simp [digs_zero]]
  clear hbig hrow
  go_wp2_with (at_builtin; refine wpList_append_zero rfl _ _ 32 rfl 3 i0 Tryd.underlying32 hi (w1.heap.size + 1) p c rfl rfl ?_)
  have hO : ((w1.alloc (.cells #[.bool false, .slice p 0 c] 34)).alloc (.cells #[] 3)).ownsRow (w1.heap.size + 1) 3 1 (.slice (some ⟨w1.heap.size + 1, 0, none⟩) 0 0) 0 [] := by
    have := World.ownsRow_made (base := w1.heap.size + 1) (w := w1.alloc (.cells #[.bool false, .slice p 0 c] 34)) (e := 3) (size := 1) #[] 0 (by simp) (by decide) (by decide)
    simpa using this
  have hP : PadRel 0 w1 [] (.slice (some ⟨w1.heap.size + 1, 0, none⟩) 0 0) ((w1.alloc (.cells #[.bool false, .slice p 0 c] 34)).alloc (.cells #[] 3)) := ⟨by rw [digs_zero], (fun d hd => by cases hd), by simp, hO, ((oneB _ _).alloc (by simp) _), by simp⟩
  have hBk : Blk ((w1.alloc (.cells #[.bool false, .slice p 0 c] 34)).alloc (.cells #[] 3)) w1.heap.size #[.bool false, .slice p 0 c] 34 := (Blk.new w1 _ _).alloc _
  generalize (w1.alloc (.cells #[.bool false, .slice p 0 c] 34)).alloc (.cells #[] 3) = W at *
  have HP := Lib.hid hP
  have HBK := Lib.hid hBk
  clear hP hBk
  go_loopw [4] (fun v4 wr => ∃ (xs : List Int) (pd : Option Addr) (cd : Nat), v4 = .slice pd xs.length cd ∧ Hid (PadRel 0 w1 xs (.slice pd xs.length cd) wr) ∧ Hid (Blk wr w1.heap.size #[.bool false, .slice p 0 c] 34)) (fun v4 _ => 3 - vlen v4)
  case atStart => exact ⟨[], _, _, rfl, HP, HBK⟩
  case round =>
    obtain ⟨xs, pd, cd, rfl, HR, HB⟩ := hrel
    have hxl := HR.out.2.2.1
    by_cases hl : xs.length < 3
    · have C3 : Hid (xs.length + 1 ≤ maxLen) := by show _ ≤ _; unfold maxLen; omega
      have C4 : Hid ((xs.length + 1) * 8 ≤ 140737488355328) := by show _ ≤ _; omega
      have C5 : Hid (∀ o : Obj, w1.heap.size + 1 ≤ (wr.alloc o).heap.size) := fun o => by have := HR.out.2.2.2.2.2; simp; omega
      go_wp2_with (at_builtin; refine wpList_append_own _ rfl _ _ 32 rfl (w1.heap.size + 1) 3 i0 (.int .i64 0) 1 8 Tryd.underlying32 hi hz0 hz1 hz2 rfl (by decide) _ _ _ rfl (HR.out.2.2.2.1.alloc _) ⟨wr.heap.size, 0, none⟩ 1 1 [.int .i64 0] rfl rfl (one_new _ _ _) (one_cells _ _) C3.out C4.out (C5.out _) ?_)
      intro v' w2 hown hgrow _
      have hst : PadRel 0 w1 (xs ++ [0]) v' w2 := PadRel.step HR.out hl _ hown hgrow
      have hbk2 := (HB.out.alloc (.cells #[.int .i64 0] 3)).grown hgrow (ownBlock_ne HR.out.2.2.2.1 (by omega))
      obtain ⟨p', c', rfl⟩ := owned_slice hown
      have HST := Lib.hid hst
      have HBK2 := Lib.hid hbk2
      clear hst hown hgrow hbk2
      go_wp2
      go_roundw
      case rel => exact ⟨xs ++ [0], p', c', by simp, by show PadRel _ _ _ _ _; rw [List.length_append]; exact HST.out, HBK2⟩
      case measure => simp [vlen]; omega
    · have hpad : Hid (backL xs 0 [] = tailL 0) := by
        show _ = _
        rw [← pad3_long (by omega : 3 ≤ xs.length), HR.out.1, backL_all]
      have hrow := Row.owned HR.out.2.2.2.1
      have hdg := HR.out.2.1
      have hbel := HR.out.2.2.2.2.1
      have HRW := Lib.hid hrow
      have HBL := Lib.hid hbel
      have HS0 := HR.out.2.2.2.2.2
      clear hrow hbel HR
      go_wp2
      go_loopw [5, 6] (fun vs vi wr2 => ∃ (i : Nat) (st : List UInt8), i ≤ xs.length ∧ st.length ≤ 2 * i ∧ vi = .int .i64 i ∧ vs = .string ⟨st.toArray⟩ ∧ Hid (backL (xs.drop i) i st = tailL 0) ∧ Hid (Below wr.heap.size wr wr2)) (fun _ vi _ => xs.length - (RowKit.intOf vi).toNat)
      case atStart => exact ⟨0, [], Nat.zero_le _, by simp, rfl, rfl, (by show backL (xs.drop 0) 0 [] = _; simpa using hpad.out), Below.refl _ _⟩
      case round =>
        obtain ⟨i, st, hi0, hsl, rfl, rfl, hbk, hbw⟩ := hrel
        by_cases hlt : i < xs.length
        · have hdi := hdg (xs.getD i 0) (by rw [List.getD_eq_getElem?_getD, List.getElem?_eq_getElem hlt]; exact List.getElem_mem hlt)
          obtain ⟨bd, od, rfl, hcell⟩ := Row.at (HRW.out.kept (hbw.out)) i hlt
          generalize hd' : xs.getD i 0 = d at *
          have a1 : IntKind.u8.wrap (48 + d) = 48 + d := by rw [u8_wrap]; omega
          have hcv := letter_conv wr d hdi
          have hbk2 : Hid (backL (xs.drop (i + 1)) (i + 1) (if i = 1 then 46 :: letter d :: st else letter d :: st) = tailL 0) := by
            show _ = _
            rw [← hbk.out, List.drop_eq_getElem_cons hlt, ← hd', List.getD_eq_getElem?_getD, List.getElem?_eq_getElem hlt]; rfl
          by_cases hi1 : i = 1
          · rw [if_pos hi1] at hbk2
            subst hi1
            go_wp2
            go_roundw
            case rel => exact ⟨2, 46 :: letter d :: st, by omega, by simp; omega, rfl, by rw [joined1, joined1], hbk2, hbw.out.alloc hbw.out.size _⟩
            case measure => simp [RowKit.intOf]; omega
          · rw [if_neg hi1] at hbk2
            have hi1' : ((i : Int) == 1) = false := by simp; omega
            go_wp2
            go_roundw
            case rel => exact ⟨i + 1, letter d :: st, by omega, by simp; omega, by simp, by rw [joined1], hbk2, hbw.out.alloc hbw.out.size _⟩
            case measure => simp [RowKit.intOf]; omega
        · have hst : st = tailL 0 := by
            have := hbk.out
            rwa [List.drop_of_length_le (by omega)] at this
          subst hst
          have hm := (HB.out.below hbw.out HB.out.lt).cell 0
          go_wp2
          go_ret
          exact ⟨ret_string (by rw [textL_zero]), seqB (seqB hb1 HBL.out) hbw.out⟩


set_option maxHeartbeats 2000000 in
set_option maxRecDepth 100000 in
theorem reftext_pos (a : Int) (n : Nat) (hn : n = a.natAbs) (h0 : 0 < a) (ha : Fits a) (w : World) :
    Calls Tryd.prog 21 #[.int .i64 a] w fun e w' => e = .returned (.string ⟨(textL a).toArray⟩) ∧ Below w.heap.size w w' := by
  obtain ⟨i0, hi, hz0, hz1, hz2⟩ := info_parts info_int
  go_enter Tryd.func21, Tryd.ntmps21
  go_wp2_with fail
  refine (from_any a w ha).mono ?_
  rintro e w1 ⟨v1, rfl, hbig, hb1⟩
  obtain ⟨s1, e1, hrow⟩ := id hbig
  subst e1
  obtain ⟨p, c, rfl⟩ := hrow.form
  have hl25 : (digs n).length ≤ 20 := digs_length n 20 (by unfold Fits at ha; omega)
  have hl1 : 1 ≤ (digs n).length := by rw [digs_pos (by omega)]; simp
  have hdd : IsDigs (digs n) := digs_isDigs n
  rw [← hn] at hrow
  have hpp := hrow.at 0 hl1
  rw [show decide (a < 0) = false by simp; omega, ← hn]
  obtain ⟨b, o, rfl, _⟩ := hpp
  have hwh := Row.whole hrow
  generalize hL : (digs n).length = L at *
  have K1 : Hid (0 + L ≤ maxLen) := by show _ ≤ _; unfold maxLen; omega
  have K2 : Hid ((0 + L) * 8 ≤ 140737488355328) := by show _ ≤ _; omega
  have K3 : Hid (((digs n).map (Value.int .i64)).length = L * 1) := by show _ = _; simp [hL]
  have K4 : Hid (w1.heap.size + 1 ≤ ((w1.alloc (.cells #[.bool false, .slice (some ⟨b, o, none⟩) L c] 34)).alloc (.cells #[] 3)).heap.size) := by show _ ≤ _; simp
  have hO : ((w1.alloc (.cells #[.bool false, .slice (some ⟨b, o, none⟩) L c] 34)).alloc (.cells #[] 3)).ownsRow (w1.heap.size + 1) 3 1 (.slice (some ⟨w1.heap.size + 1, 0, none⟩) 0 0) 0 [] := by
    have := World.ownsRow_made (base := w1.heap.size + 1) (w := w1.alloc (.cells #[.bool false, .slice (some ⟨b, o, none⟩) L c] 34)) (e := 3) (size := 1) #[] 0 (by simp) (by decide) (by decide)
    simpa using this
  have hB0 : Below w1.heap.size w1 ((w1.alloc (.cells #[.bool false, .slice (some ⟨b, o, none⟩) L c] 34)).alloc (.cells #[] 3)) := (oneB _ _).alloc (by simp) _
  have hBk0 : Blk ((w1.alloc (.cells #[.bool false, .slice (some ⟨b, o, none⟩) L c] 34)).alloc (.cells #[] 3)) w1.heap.size #[.bool false, .slice (some ⟨b, o, none⟩) L c] 34 := (Blk.new w1 _ _).alloc _
  have hwh1 := hwh _ hB0
  have HW := Lib.hid hwh1
  have HO := Lib.hid hO
  have HB0 := Lib.hid hB0
  have HBK0 := Lib.hid hBk0
  have HNZ := Lib.hid hl1
  have HN := Lib.hid hn
  clear hwh hwh1 hO hB0 hBk0 hrow hbig hn
  go_wp2_with (at_builtin; refine wpList_append_own _ rfl _ _ 32 rfl (w1.heap.size + 1) 3 i0 (.int .i64 0) 1 8 Tryd.underlying32 hi hz0 hz1 hz2 rfl (by decide) (.slice (some ⟨w1.heap.size + 1, 0, none⟩) 0 0) 0 [] rfl HO.out ⟨b, o, none⟩ L c ((digs n).map (Value.int .i64)) rfl K3.out HW.out (ints_cellz _) K1.out K2.out K4.out ?_)
  intro v2 W hown hgrow _
  try rw [Nat.zero_add] at hown
  have hbk1 := HBK0.out.grown hgrow (by simp [Value.ownBlock])
  have hP : PadRel n w1 (digs n) v2 W := ⟨rfl, hdd, by omega, by simpa [hL] using hown, HB0.out.grown hgrow (by simp; omega) (fun k hk => by simp [Value.ownBlock] at hk; omega), by have := hgrow.size; simp at this; omega⟩
  obtain ⟨pv, cv, rfl⟩ := owned_slice hown
  have HP := Lib.hid hP
  have HBK := Lib.hid hbk1
  clear hP hbk1 hown hgrow
  go_wp2
  go_loopw [4] (fun v4 wr => ∃ (xs : List Int) (pd : Option Addr) (cd : Nat), v4 = .slice pd xs.length cd ∧ Hid (PadRel n w1 xs (.slice pd xs.length cd) wr) ∧ Hid (Blk wr w1.heap.size #[.bool false, .slice (some ⟨b, o, none⟩) L c] 34)) (fun v4 _ => 3 - vlen v4)
  case atStart => exact ⟨digs n, _, _, by rw [hL], by rw [hL]; exact HP, HBK⟩
  case round =>
    obtain ⟨xs, pd, cd, rfl, HR, HB⟩ := hrel
    have hxl := HR.out.2.2.1
    by_cases hl : xs.length < 3
    · have C3 : Hid (xs.length + 1 ≤ maxLen) := by show _ ≤ _; unfold maxLen; omega
      have C4 : Hid ((xs.length + 1) * 8 ≤ 140737488355328) := by show _ ≤ _; omega
      have C5 : Hid (∀ o : Obj, w1.heap.size + 1 ≤ (wr.alloc o).heap.size) := fun o => by have := HR.out.2.2.2.2.2; simp; omega
      go_wp2_with (at_builtin; refine wpList_append_own _ rfl _ _ 32 rfl (w1.heap.size + 1) 3 i0 (.int .i64 0) 1 8 Tryd.underlying32 hi hz0 hz1 hz2 rfl (by decide) _ _ _ rfl (HR.out.2.2.2.1.alloc _) ⟨wr.heap.size, 0, none⟩ 1 1 [.int .i64 0] rfl rfl (one_new _ _ _) (one_cells _ _) C3.out C4.out (C5.out _) ?_)
      intro v' w2 hown hgrow _
      have hst : PadRel n w1 (xs ++ [0]) v' w2 := PadRel.step HR.out hl _ hown hgrow
      have hbk2 := (HB.out.alloc (.cells #[.int .i64 0] 3)).grown hgrow (ownBlock_ne HR.out.2.2.2.1 (by omega))
      obtain ⟨p', c', rfl⟩ := owned_slice hown
      have HST := Lib.hid hst
      have HBK2 := Lib.hid hbk2
      clear hst hown hgrow hbk2
      go_wp2
      go_roundw
      case rel => exact ⟨xs ++ [0], p', c', by simp, by show PadRel _ _ _ _ _; rw [List.length_append]; exact HST.out, HBK2⟩
      case measure => simp [vlen]; omega
    · have hpad : Hid (backL xs 0 [] = tailL n) := by
        show _ = _
        rw [← pad3_long (by omega : 3 ≤ xs.length), HR.out.1, backL_all]
      have hrow := Row.owned HR.out.2.2.2.1
      have hdg := HR.out.2.1
      have hbel := HR.out.2.2.2.2.1
      have HRW := Lib.hid hrow
      have HBL := Lib.hid hbel
      have HS0 := HR.out.2.2.2.2.2
      clear hrow hbel HR
      go_wp2
      go_loopw [5, 6] (fun vs vi wr2 => ∃ (i : Nat) (st : List UInt8), i ≤ xs.length ∧ st.length ≤ 2 * i ∧ vi = .int .i64 i ∧ vs = .string ⟨st.toArray⟩ ∧ Hid (backL (xs.drop i) i st = tailL n) ∧ Hid (Below wr.heap.size wr wr2)) (fun _ vi _ => xs.length - (RowKit.intOf vi).toNat)
      case atStart => exact ⟨0, [], Nat.zero_le _, by simp, rfl, rfl, (by show backL (xs.drop 0) 0 [] = _; simpa using hpad.out), Below.refl _ _⟩
      case round =>
        obtain ⟨i, st, hi0, hsl, rfl, rfl, hbk, hbw⟩ := hrel
        by_cases hlt : i < xs.length
        · have hdi := hdg (xs.getD i 0) (by rw [List.getD_eq_getElem?_getD, List.getElem?_eq_getElem hlt]; exact List.getElem_mem hlt)
          obtain ⟨bd, od, rfl, hcell⟩ := Row.at (HRW.out.kept (hbw.out)) i hlt
          generalize hd' : xs.getD i 0 = d at *
          have a1 : IntKind.u8.wrap (48 + d) = 48 + d := by rw [u8_wrap]; omega
          have hcv := letter_conv wr d hdi
          have hbk2 : Hid (backL (xs.drop (i + 1)) (i + 1) (if i = 1 then 46 :: letter d :: st else letter d :: st) = tailL n) := by
            show _ = _
            rw [← hbk.out, List.drop_eq_getElem_cons hlt, ← hd', List.getD_eq_getElem?_getD, List.getElem?_eq_getElem hlt]; rfl
          by_cases hi1 : i = 1
          · rw [if_pos hi1] at hbk2
            subst hi1
            go_wp2
            go_roundw
            case rel => exact ⟨2, 46 :: letter d :: st, by omega, by simp; omega, rfl, by rw [joined1, joined1], hbk2, hbw.out.alloc hbw.out.size _⟩
            case measure => simp [RowKit.intOf]; omega
          · rw [if_neg hi1] at hbk2
            have hi1' : ((i : Int) == 1) = false := by simp; omega
            go_wp2
            go_roundw
            case rel => exact ⟨i + 1, letter d :: st, by omega, by simp; omega, by simp, by rw [joined1], hbk2, hbw.out.alloc hbw.out.size _⟩
            case measure => simp [RowKit.intOf]; omega
        · have hst : st = tailL n := by
            have := hbk.out
            rwa [List.drop_of_length_le (by omega)] at this
          subst hst
          have hm := (HB.out.below hbw.out HB.out.lt).cell 0
          go_wp2
          go_ret
          exact ⟨ret_string (by rw [textL_nonneg (by omega), ← HN.out]), seqB (seqB hb1 HBL.out) hbw.out⟩


set_option maxHeartbeats 2000000 in
set_option maxRecDepth 100000 in
theorem reftext_neg (a : Int) (n : Nat) (hn : n = a.natAbs) (h0 : a < 0) (ha : Fits a) (w : World) :
    Calls Tryd.prog 21 #[.int .i64 a] w fun e w' => e = .returned (.string ⟨(textL a).toArray⟩) ∧ Below w.heap.size w w' := by
  obtain ⟨i0, hi, hz0, hz1, hz2⟩ := info_parts info_int
  go_enter Tryd.func21, Tryd.ntmps21
  go_wp2_with fail
  refine (from_any a w ha).mono ?_
  rintro e w1 ⟨v1, rfl, hbig, hb1⟩
  obtain ⟨s1, e1, hrow⟩ := id hbig
  subst e1
  obtain ⟨p, c, rfl⟩ := hrow.form
  have hl25 : (digs n).length ≤ 20 := digs_length n 20 (by unfold Fits at ha; omega)
  have hl1 : 1 ≤ (digs n).length := by rw [digs_pos (by omega)]; simp
  have hdd : IsDigs (digs n) := digs_isDigs n
  rw [← hn] at hrow
  have hpp := hrow.at 0 hl1
  rw [show decide (a < 0) = true by simp; omega, ← hn]
  obtain ⟨b, o, rfl, _⟩ := hpp
  have hwh := Row.whole hrow
  generalize hL : (digs n).length = L at *
  have K1 : Hid (0 + L ≤ maxLen) := by show _ ≤ _; unfold maxLen; omega
  have K2 : Hid ((0 + L) * 8 ≤ 140737488355328) := by show _ ≤ _; omega
  have K3 : Hid (((digs n).map (Value.int .i64)).length = L * 1) := by show _ = _; simp [hL]
  have K4 : Hid (w1.heap.size + 1 ≤ ((w1.alloc (.cells #[.bool true, .slice (some ⟨b, o, none⟩) L c] 34)).alloc (.cells #[] 3)).heap.size) := by show _ ≤ _; simp
  have hO : ((w1.alloc (.cells #[.bool true, .slice (some ⟨b, o, none⟩) L c] 34)).alloc (.cells #[] 3)).ownsRow (w1.heap.size + 1) 3 1 (.slice (some ⟨w1.heap.size + 1, 0, none⟩) 0 0) 0 [] := by
    have := World.ownsRow_made (base := w1.heap.size + 1) (w := w1.alloc (.cells #[.bool true, .slice (some ⟨b, o, none⟩) L c] 34)) (e := 3) (size := 1) #[] 0 (by simp) (by decide) (by decide)
    simpa using this
  have hB0 : Below w1.heap.size w1 ((w1.alloc (.cells #[.bool true, .slice (some ⟨b, o, none⟩) L c] 34)).alloc (.cells #[] 3)) := (oneB _ _).alloc (by simp) _
  have hBk0 : Blk ((w1.alloc (.cells #[.bool true, .slice (some ⟨b, o, none⟩) L c] 34)).alloc (.cells #[] 3)) w1.heap.size #[.bool true, .slice (some ⟨b, o, none⟩) L c] 34 := (Blk.new w1 _ _).alloc _
  have hwh1 := hwh _ hB0
  have HW := Lib.hid hwh1
  have HO := Lib.hid hO
  have HB0 := Lib.hid hB0
  have HBK0 := Lib.hid hBk0
  have HNZ := Lib.hid hl1
  have HN := Lib.hid hn
  clear hwh hwh1 hO hB0 hBk0 hrow hbig hn
  go_wp2_with (at_builtin; refine wpList_append_own _ rfl _ _ 32 rfl (w1.heap.size + 1) 3 i0 (.int .i64 0) 1 8 Tryd.underlying32 hi hz0 hz1 hz2 rfl (by decide) (.slice (some ⟨w1.heap.size + 1, 0, none⟩) 0 0) 0 [] rfl HO.out ⟨b, o, none⟩ L c ((digs n).map (Value.int .i64)) rfl K3.out HW.out (ints_cellz _) K1.out K2.out K4.out ?_)
  intro v2 W hown hgrow _
  try rw [Nat.zero_add] at hown
  have hbk1 := HBK0.out.grown hgrow (by simp [Value.ownBlock])
  have hP : PadRel n w1 (digs n) v2 W := ⟨rfl, hdd, by omega, by simpa [hL] using hown, HB0.out.grown hgrow (by simp; omega) (fun k hk => by simp [Value.ownBlock] at hk; omega), by have := hgrow.size; simp at this; omega⟩
  obtain ⟨pv, cv, rfl⟩ := owned_slice hown
  have HP := Lib.hid hP
  have HBK := Lib.hid hbk1
  clear hP hbk1 hown hgrow
  go_wp2
  go_loopw [4] (fun v4 wr => ∃ (xs : List Int) (pd : Option Addr) (cd : Nat), v4 = .slice pd xs.length cd ∧ Hid (PadRel n w1 xs (.slice pd xs.length cd) wr) ∧ Hid (Blk wr w1.heap.size #[.bool true, .slice (some ⟨b, o, none⟩) L c] 34)) (fun v4 _ => 3 - vlen v4)
  case atStart => exact ⟨digs n, _, _, by rw [hL], by rw [hL]; exact HP, HBK⟩
  case round =>
    obtain ⟨xs, pd, cd, rfl, HR, HB⟩ := hrel
    have hxl := HR.out.2.2.1
    by_cases hl : xs.length < 3
    · have C3 : Hid (xs.length + 1 ≤ maxLen) := by show _ ≤ _; unfold maxLen; omega
      have C4 : Hid ((xs.length + 1) * 8 ≤ 140737488355328) := by show _ ≤ _; omega
      have C5 : Hid (∀ o : Obj, w1.heap.size + 1 ≤ (wr.alloc o).heap.size) := fun o => by have := HR.out.2.2.2.2.2; simp; omega
      go_wp2_with (at_builtin; refine wpList_append_own _ rfl _ _ 32 rfl (w1.heap.size + 1) 3 i0 (.int .i64 0) 1 8 Tryd.underlying32 hi hz0 hz1 hz2 rfl (by decide) _ _ _ rfl (HR.out.2.2.2.1.alloc _) ⟨wr.heap.size, 0, none⟩ 1 1 [.int .i64 0] rfl rfl (one_new _ _ _) (one_cells _ _) C3.out C4.out (C5.out _) ?_)
      intro v' w2 hown hgrow _
      have hst : PadRel n w1 (xs ++ [0]) v' w2 := PadRel.step HR.out hl _ hown hgrow
      have hbk2 := (HB.out.alloc (.cells #[.int .i64 0] 3)).grown hgrow (ownBlock_ne HR.out.2.2.2.1 (by omega))
      obtain ⟨p', c', rfl⟩ := owned_slice hown
      have HST := Lib.hid hst
      have HBK2 := Lib.hid hbk2
      clear hst hown hgrow hbk2
      go_wp2
      go_roundw
      case rel => exact ⟨xs ++ [0], p', c', by simp, by show PadRel _ _ _ _ _; rw [List.length_append]; exact HST.out, HBK2⟩
      case measure => simp [vlen]; omega
    · have hpad : Hid (backL xs 0 [] = tailL n) := by
        show _ = _
        rw [← pad3_long (by omega : 3 ≤ xs.length), HR.out.1, backL_all]
      have hrow := Row.owned HR.out.2.2.2.1
      have hdg := HR.out.2.1
      have hbel := HR.out.2.2.2.2.1
      have HRW := Lib.hid hrow
      have HBL := Lib.hid hbel
      have HS0 := HR.out.2.2.2.2.2
      clear hrow hbel HR
      go_wp2
      go_loopw [5, 6] (fun vs vi wr2 => ∃ (i : Nat) (st : List UInt8), i ≤ xs.length ∧ st.length ≤ 2 * i ∧ vi = .int .i64 i ∧ vs = .string ⟨st.toArray⟩ ∧ Hid (backL (xs.drop i) i st = tailL n) ∧ Hid (Below wr.heap.size wr wr2)) (fun _ vi _ => xs.length - (RowKit.intOf vi).toNat)
      case atStart => exact ⟨0, [], Nat.zero_le _, by simp, rfl, rfl, (by show backL (xs.drop 0) 0 [] = _; simpa using hpad.out), Below.refl _ _⟩
      case round =>
        obtain ⟨i, st, hi0, hsl, rfl, rfl, hbk, hbw⟩ := hrel
        by_cases hlt : i < xs.length
        · have hdi := hdg (xs.getD i 0) (by rw [List.getD_eq_getElem?_getD, List.getElem?_eq_getElem hlt]; exact List.getElem_mem hlt)
          obtain ⟨bd, od, rfl, hcell⟩ := Row.at (HRW.out.kept (hbw.out)) i hlt
          generalize hd' : xs.getD i 0 = d at *
          have a1 : IntKind.u8.wrap (48 + d) = 48 + d := by rw [u8_wrap]; omega
          have hcv := letter_conv wr d hdi
          have hbk2 : Hid (backL (xs.drop (i + 1)) (i + 1) (if i = 1 then 46 :: letter d :: st else letter d :: st) = tailL n) := by
            show _ = _
            rw [← hbk.out, List.drop_eq_getElem_cons hlt, ← hd', List.getD_eq_getElem?_getD, List.getElem?_eq_getElem hlt]; rfl
          by_cases hi1 : i = 1
          · rw [if_pos hi1] at hbk2
            subst hi1
            go_wp2
            go_roundw
            case rel => exact ⟨2, 46 :: letter d :: st, by omega, by simp; omega, rfl, by rw [joined1, joined1], hbk2, hbw.out.alloc hbw.out.size _⟩
            case measure => simp [RowKit.intOf]; omega
          · rw [if_neg hi1] at hbk2
            have hi1' : ((i : Int) == 1) = false := by simp; omega
            go_wp2
            go_roundw
            case rel => exact ⟨i + 1, letter d :: st, by omega, by simp; omega, by simp, by rw [joined1], hbk2, hbw.out.alloc hbw.out.size _⟩
            case measure => simp [RowKit.intOf]; omega
        · have hst : st = tailL n := by
            have := hbk.out
            rwa [List.drop_of_length_le (by omega)] at this
          subst hst
          have hm := (HB.out.below hbw.out HB.out.lt).cell 0
          go_wp2
          go_ret
          exact ⟨ret_string (by rw [textL_minus (by omega), ← HN.out]; exact joined1 _ _), seqB (seqB hb1 HBL.out) hbw.out⟩


theorem reftext_any (a : Int) (ha : Fits a) (w : World) :
    Calls Tryd.prog 21 #[.int .i64 a] w fun e w' => e = .returned (.string ⟨(textL a).toArray⟩) ∧ Below w.heap.size w w' := by
  rcases Int.lt_trichotomy a 0 with h | rfl | h
  · exact reftext_neg a _ rfl h ha w
  · exact reftext_zero w
  · exact reftext_pos a _ rfl h ha w
end Go.Proofs.YtgdcegkokbkdfaaDoor
