/- money.Parse: the walk: what a text is read as, letter by letter. -/
import Derived.Test.YtgdahhbigpcldaaDoorDigit
namespace Go.Proofs.YtgdahhbigpcldaaDoor
open Go.RowKit

/-- What the whole text tells: the number, the error. -/
def amountN (m : Bool) (be sz : Int) : Int := if be ≠ 2 ∨ (m = true ∧ sz = 0) then 0 else if 9223372036854775808 < sz ∨ (sz = 9223372036854775808 ∧ m = false) then 0 else if m then -sz else sz
def amountE (m : Bool) (be sz : Int) : Int := if be ≠ 2 ∨ (m = true ∧ sz = 0) then 41 else if 9223372036854775808 < sz ∨ (sz = 9223372036854775808 ∧ m = false) then 10 else 0

theorem ret_pair {a b c d : Int} (h : a = b) (h' : c = d) : Ending.returned (.tuple #[.int .i64 a, .int .i64 c]) = .returned (.tuple #[.int .i64 b, .int .i64 d]) := by rw [h, h']

set_option maxHeartbeats 1000000 in
set_option maxRecDepth 100000 in
theorem amount_any (m p : Bool) (ah be sz : Int) (W : World) (hs0 : 0 ≤ sz) (hs1 : sz ≤ 18446744073709551615) :
    Calls Tryd.prog 17 #[.agg (tcells m p ah be sz)] W fun e W' => e = .returned (.tuple #[.int .i64 (amountN m be sz), .int .i64 (amountE m be sz)]) ∧ Below W.heap.size W W' := by
  unfold tcells
  by_cases hbe : be = 2
  · have b1 : (be != 2) = false := by simpa using hbe
    by_cases hz : sz = 0
    · have z1 : (sz == 0) = true := by simpa using hz
      cases m with
      | true =>
        have n1 : Hid (amountN true be sz = 0) := by show _ = _; unfold amountN; rw [if_pos (.inr ⟨rfl, hz⟩)]
        have n2 : Hid (amountE true be sz = 41) := by show _ = _; unfold amountE; rw [if_pos (.inr ⟨rfl, hz⟩)]
        clear hbe hz
        go_enter Tryd.func17, Tryd.ntmps17
        go_wp2
        go_ret2
        exact ⟨ret_pair (by rw [n1.out]) (by rw [n2.out]), oneB _ _⟩
      | false =>
        have n1 : Hid (amountN false be sz = 0) := by show _ = _; unfold amountN; rw [if_neg (by simp [hbe]), if_neg (by omega), if_neg (by simp), hz]
        have n2 : Hid (amountE false be sz = 0) := by show _ = _; unfold amountE; rw [if_neg (by simp [hbe]), if_neg (by omega)]
        have z3 : (sz == 9223372036854775808) = false := beq_eq_false_iff_ne.2 (by omega)
        have z4 : sz ≤ 0 := by omega
        have HZ := Lib.hid hz
        clear hbe hz
        go_enter Tryd.func17, Tryd.ntmps17
        go_wp2
        go_ret2
        exact ⟨ret_pair (by rw [n1.out, HZ.out]) (by rw [n2.out]), oneB _ _⟩
    · have z1 : (sz == 0) = false := by simpa using hz
      by_cases hbig : 9223372036854775808 < sz
      · have n1 : Hid (amountN m be sz = 0) := by show _ = _; unfold amountN; rw [if_neg (by simp [hbe, hz]), if_pos (.inl hbig)]
        have n2 : Hid (amountE m be sz = 10) := by show _ = _; unfold amountE; rw [if_neg (by simp [hbe, hz]), if_pos (.inl hbig)]
        clear hbe hz
        cases m
        all_goals
          go_enter Tryd.func17, Tryd.ntmps17
          go_wp2
          go_ret2
          exact ⟨ret_pair (by rw [n1.out]) (by rw [n2.out]), oneB _ _⟩
      · by_cases hm : sz = 9223372036854775808
        · have z3 : (sz == 9223372036854775808) = true := by simpa using hm
          cases m with
          | true =>
            have n1 : Hid (amountN true be sz = -9223372036854775808) := by show _ = _; unfold amountN; rw [if_neg (by simp [hbe, hz]), if_neg (by simp; omega), if_pos rfl, hm]
            have n2 : Hid (amountE true be sz = 0) := by show _ = _; unfold amountE; rw [if_neg (by simp [hbe, hz]), if_neg (by simp; omega)]
            have e1 : wrap64 (IntKind.u64.wrap (-sz)) = -9223372036854775808 := by rw [hm]; unfold wrap64; rw [show IntKind.u64.wrap (-9223372036854775808) = (-9223372036854775808) % 18446744073709551616 from rfl]; omega
            have z5 : sz ≤ 9223372036854775808 := by omega
            clear hbe hz hm hbig
            go_enter Tryd.func17, Tryd.ntmps17
            go_wp2
            go_ret2
            exact ⟨ret_pair (by rw [n1.out]; exact e1) (by rw [n2.out]), oneB _ _⟩
          | false =>
            have n1 : Hid (amountN false be sz = 0) := by show _ = _; unfold amountN; rw [if_neg (by simp [hbe]), if_pos (.inr ⟨hm, rfl⟩)]
            have n2 : Hid (amountE false be sz = 10) := by show _ = _; unfold amountE; rw [if_neg (by simp [hbe]), if_pos (.inr ⟨hm, rfl⟩)]
            have z5 : sz ≤ 9223372036854775808 := by omega
            clear hbe hz hm hbig
            go_enter Tryd.func17, Tryd.ntmps17
            go_wp2
            go_ret2
            exact ⟨ret_pair (by rw [n1.out]) (by rw [n2.out]), oneB _ _⟩
        · have z3 : (sz == 9223372036854775808) = false := by simpa using hm
          have z5 : sz ≤ 9223372036854775807 := by omega
          cases m with
          | true =>
            have n1 : Hid (amountN true be sz = -sz) := by show _ = _; unfold amountN; rw [if_neg (by simp [hbe, hz]), if_neg (by simp; omega), if_pos rfl]
            have n2 : Hid (amountE true be sz = 0) := by show _ = _; unfold amountE; rw [if_neg (by simp [hbe, hz]), if_neg (by simp; omega)]
            have e1 : wrap64 (IntKind.u64.wrap (-sz)) = -sz := by unfold wrap64; rw [show IntKind.u64.wrap (-sz) = (-sz) % 18446744073709551616 from rfl]; omega
            clear hbe hz hm hbig
            go_enter Tryd.func17, Tryd.ntmps17
            go_wp2
            go_ret2
            exact ⟨ret_pair (by rw [n1.out]; exact e1) (by rw [n2.out]), oneB _ _⟩
          | false =>
            have n1 : Hid (amountN false be sz = sz) := by show _ = _; unfold amountN; rw [if_neg (by simp [hbe]), if_neg (by omega), if_neg (by simp)]
            have n2 : Hid (amountE false be sz = 0) := by show _ = _; unfold amountE; rw [if_neg (by simp [hbe]), if_neg (by omega)]
            clear hbe hz hm hbig
            go_enter Tryd.func17, Tryd.ntmps17
            go_wp2
            go_ret2
            exact ⟨ret_pair (by rw [n1.out]) (by rw [n2.out]), oneB _ _⟩
  · have b1 : (be != 2) = true := by simpa using hbe
    have n1 : Hid (amountN m be sz = 0) := by show _ = _; unfold amountN; rw [if_pos (.inl hbe)]
    have n2 : Hid (amountE m be sz = 41) := by show _ = _; unfold amountE; rw [if_pos (.inl hbe)]
    clear hbe
    go_enter Tryd.func17, Tryd.ntmps17
    go_wp2
    go_ret2
    exact ⟨ret_pair (by rw [n1.out]) (by rw [n2.out]), oneB _ _⟩

/-- What is read from letter i on, with what was read so far: the number, the error. -/
def runV : List UInt8 → Nat → Bool → Bool → Int → Int → Int → Int × Int
  | [], _, m, _, _, be, sz => (amountN m be sz, amountE m be sz)
  | c :: l, i, m, p, ah, be, sz =>
    if c.toNat = 45 then if i = 0 then runV l (i + 1) true p ah be sz else (0, 41)
    else if c.toNat = 46 then if (decide (0 < ah) && !p) = true then runV l (i + 1) m true ah be sz else (0, 41)
    else if 48 ≤ c.toNat ∧ c.toNat ≤ 57 then
      if p then runV l (i + 1) m true ah (be + 1) (sizeMore sz (c.toNat - 48))
      else if aheadB ah sz = true then runV l (i + 1) m false (ah + 1) be (sizeMore sz (c.toNat - 48)) else (0, 41)
    else (0, 41)

/-- The iterator in block b stands at pos. -/
def itNext (W : World) (b : Nat) (s : ByteArray) (pos : Nat) : World := { W with heap := W.heap.setIfInBounds b (.stringIter s pos) }
theorem itNext_at {W : World} {b : Nat} (s : ByteArray) (pos : Nat) {o : Obj} (h : W.heap[b]? = some o) : (itNext W b s pos).heap[b]? = some (.stringIter s pos) := by
  have := lt_of_block h
  show (W.heap.setIfInBounds b _)[b]? = _
  rw [Array.getElem?_setIfInBounds_self_of_lt this]
theorem itNext_blk {W : World} {b b' : Nat} (s : ByteArray) (pos : Nat) {cs : Array Value} {t : TypeId} (h : Blk W b' cs t) (hne : b ≠ b') : Blk (itNext W b s pos) b' cs t := by
  show (W.heap.setIfInBounds b _)[b']? = _
  rw [Array.getElem?_setIfInBounds_ne hne]; exact h
theorem itNext_below {a W : World} {B b : Nat} (s : ByteArray) (pos : Nat) (h : Below B a W) (hB : B ≤ b) : Below B a (itNext W b s pos) :=
  h.trans ⟨rfl, rfl, rfl, by simp [itNext], fun k hk => by
    show (W.heap.setIfInBounds b _)[k]? = _
    rw [Array.getElem?_setIfInBounds_ne (by omega)]⟩
theorem run_next_at {P : Program} (W : World) (b : Nat) (s : ByteArray) (pos : Nat) (ty : TypeId) (hb : W.heap[b]? = some (.stringIter s pos)) (h : pos < s.size) (ha : (s[pos]'h).toNat < 128) :
    (Instr.next (.pointer (some ⟨b, 0, none⟩)) true ty).run P W = .ok (.tuple #[.bool true, .int .i64 pos, .int .i32 (s[pos]'h).toNat]) (itNext W b s (pos + 1)) := by
  unfold itNext
  simp only [Instr.next, getObj, setObj, Sem.run_bind, Sem.run, hb, Result.andThen, h, if_true, decode_ascii s pos h ha]
  simp [goInt]
theorem run_next_high {P : Program} (W : World) (b : Nat) (s : ByteArray) (pos : Nat) (ty : TypeId) (hb : W.heap[b]? = some (.stringIter s pos)) (h : pos < s.size) :
    (Instr.next (.pointer (some ⟨b, 0, none⟩)) true ty).run P W = .ok (.tuple #[.bool true, .int .i64 pos, .int .i32 (Utf8.decode s pos).1]) (itNext W b s (pos + (Utf8.decode s pos).2)) := by
  unfold itNext
  simp only [Instr.next, getObj, setObj, Sem.run_bind, Sem.run, hb, Result.andThen, h, if_true]
  simp [goInt]
theorem run_next_over {P : Program} (W : World) (b : Nat) (s : ByteArray) (pos : Nat) (ty : TypeId) (hb : W.heap[b]? = some (.stringIter s pos)) (h : ¬ pos < s.size) :
    (Instr.next (.pointer (some ⟨b, 0, none⟩)) true ty).run P W = .ok (.tuple #[.bool false]) W := by
  simp [Instr.next, getObj, Sem.run, hb, h]
theorem iterPos_of {W : World} {b pos : Nat} {s : ByteArray} (h : W.heap[b]? = some (.stringIter s pos)) : W.iterPos b = pos := by simp [World.iterPos, h]

/-- What is known of a state: nothing wraps round. -/
def StOk (i : Nat) (ah be sz : Int) : Prop := 0 ≤ ah ∧ ah ≤ i ∧ 0 ≤ be ∧ be ≤ i ∧ 0 ≤ sz ∧ sz ≤ 9223372036854775809
theorem sizeMore_ok {sz d : Int} (h0 : 0 ≤ sz) (d0 : 0 ≤ d) (d1 : d ≤ 9) : 0 ≤ sizeMore sz d ∧ sizeMore sz d ≤ 9223372036854775809 := by
  unfold sizeMore; split <;> omega

/-- One letter: what take answers, and what becomes of the state. -/
theorem take_step (b i : Nat) (c : UInt8) (l : List UInt8) (m p : Bool) (ah be sz : Int) (W : World) (hB : Blk W b (tcells m p ah be sz) 48) (hi : i ≤ 1000000000000) (hs : StOk i ah be sz) :
    ∃ (ok m' p' : Bool) (ah' be' sz' : Int), (Calls Tryd.prog 16 #[.pointer (some ⟨b, 0, none⟩), .int .i64 i, .int .i32 c.toNat] W fun e W' => e = .returned (.bool ok) ∧ Upd b W W' (tcells m' p' ah' be' sz') 48) ∧
      (ok = true → runV (c :: l) i m p ah be sz = runV l (i + 1) m' p' ah' be' sz' ∧ StOk (i + 1) ah' be' sz') ∧ (ok = false → runV (c :: l) i m p ah be sz = (0, 41)) := by
  obtain ⟨a0, a1, b0, b1, s0, s1⟩ := hs
  by_cases h45 : c.toNat = 45
  · refine ⟨(i : Int) == 0, true, p, ah, be, sz, by rw [h45]; exact take_minus b i m p ah be sz W hB, fun h => ?_, fun h => ?_⟩
    · have : i = 0 := by simpa using h
      exact ⟨by rw [runV, if_pos h45, if_pos this], by unfold StOk; omega⟩
    · have : i ≠ 0 := by simpa using h
      rw [runV, if_pos h45, if_neg this]
  · by_cases h46 : c.toNat = 46
    · refine ⟨decide (0 < ah) && !p, m, true, ah, be, sz, by rw [h46]; exact take_point b i m p ah be sz W hB, fun h => ?_, fun h => ?_⟩
      · exact ⟨by rw [runV, if_neg h45, if_pos h46, if_pos h], by unfold StOk; omega⟩
      · rw [runV, if_neg h45, if_pos h46, if_neg (by rw [h]; simp)]
    · by_cases hd : 48 ≤ c.toNat ∧ c.toNat ≤ 57
      · have hd0 : (0 : Int) ≤ (c.toNat : Int) - 48 := by omega
        have hd1 : (c.toNat : Int) - 48 ≤ 9 := by omega
        have hz := sizeMore_ok (sz := sz) s0 hd0 hd1
        cases p with
        | true =>
          refine ⟨true, m, true, ah, be + 1, sizeMore sz (c.toNat - 48), take_digit b i _ true _ W (by omega) (by omega) (digit_point b m ah be sz _ W hB b0 (by omega) s0 hd0 hd1), fun _ => ?_, fun h => by cases h⟩
          exact ⟨by rw [runV, if_neg h45, if_neg h46, if_pos hd, if_pos rfl], by unfold StOk; omega⟩
        | false =>
          refine ⟨aheadB ah sz, m, false, ah + 1, be, sizeMore sz (c.toNat - 48), take_digit b i _ (aheadB ah sz) _ W (by omega) (by omega) (digit_ahead b m ah be sz _ W hB a0 (by omega) s0 hd0 hd1), fun h => ?_, fun h => ?_⟩
          · exact ⟨by rw [runV, if_neg h45, if_neg h46, if_pos hd, if_neg (by simp), if_pos h], by unfold StOk; omega⟩
          · rw [runV, if_neg h45, if_neg h46, if_pos hd, if_neg (by simp), if_neg (by rw [h]; simp)]
      · refine ⟨false, m, p, ah, be, sz, (take_none b i _ W (by omega) (by omega) (by omega)).mono fun e W' ⟨he, hw⟩ => ⟨he, by rw [← hw]; exact Upd.refl hB⟩, (fun h => by cases h), fun _ => ?_⟩
        rw [runV, if_neg h45, if_neg h46, if_neg hd]

/-- A letter that is no byte below 128 is none that can be read. -/
theorem runV_high (c : UInt8) (l : List UInt8) (i : Nat) (m p : Bool) (ah be sz : Int) (h : 128 ≤ c.toNat) : runV (c :: l) i m p ah be sz = (0, 41) := by
  rw [runV, if_neg (by omega), if_neg (by omega), if_neg (by omega)]

/-- What the loop keeps. -/
def ParseRel (s : ByteArray) (w : World) (pos : Nat) (m p : Bool) (ah be sz : Int) (wr : World) : Prop :=
  wr.heap[w.heap.size + 1]? = some (.stringIter s pos) ∧ Blk wr w.heap.size (tcells m p ah be sz) 48 ∧ Below w.heap.size w wr ∧
  runV (s.data.toList.drop pos) pos m p ah be sz = runV s.data.toList 0 false false 0 0 0 ∧ StOk pos ah be sz

set_option maxHeartbeats 2000000 in
set_option maxRecDepth 100000 in
theorem parse_any (s : ByteArray) (w : World) (hs : s.size ≤ 100000000000) :
    Calls Tryd.prog 7 #[.string s] w fun e w' => e = .returned (.tuple #[.int .i64 (runV s.data.toList 0 false false 0 0 0).1, .int .i64 (runV s.data.toList 0 false false 0 0 0).2]) ∧ Below w.heap.size w w' := by
  generalize hr : runV s.data.toList 0 false false 0 0 0 = r
  have HRR := Lib.hid hr
  clear hr
  go_enter Tryd.func7, Tryd.ntmps7
  go_wp2
  go_loopw [5] (fun _ wr => ∃ (pos : Nat) (m p : Bool) (ah be sz : Int), pos ≤ s.size ∧ Hid (ParseRel s w pos m p ah be sz wr)) (fun _ wr => s.size - wr.iterPos (w.heap.size + 1))
  case atStart =>
    refine ⟨0, false, false, 0, 0, 0, Nat.zero_le _, ?_, ?_, ?_, rfl, ?_⟩
    · have := World.iter_heap (w.alloc (.cells (tcells false false 0 0 0) 48)) s 0
      simp at this
      exact this
    · exact (Blk.new w _ _).alloc _
    · exact ((Below.refl _ _).alloc (Nat.le_refl _) _).alloc (by simp) _
    · unfold StOk; decide
  case round =>
    obtain ⟨pos, m, p, ah, be, sz, hpos, HREL⟩ := hrel
    have hit := HREL.out.1
    by_cases hp : pos < s.size
    · have hdrop : s.data.toList.drop pos = s[pos] :: s.data.toList.drop (pos + 1) := by
        have hl : pos < s.data.toList.length := by simpa using hp
        rw [List.drop_eq_getElem_cons hl]; rfl
      have hrun := HREL.out.2.2.2.1
      rw [hdrop, HRR.out] at hrun
      by_cases ha : (s[pos]).toNat < 128
      · have hnx : ∀ ty, (Instr.next (.pointer (some ⟨w.heap.size + 1, 0, none⟩)) true ty).run Tryd.prog wr = _ := fun ty => run_next_at wr (w.heap.size + 1) s pos ty hit hp ha
        have hit' := itNext_at s (pos + 1) hit
        have hB' := itNext_blk s (pos + 1) HREL.out.2.1 (show w.heap.size + 1 ≠ w.heap.size by omega)
        have hbel' := itNext_below s (pos + 1) HREL.out.2.2.1 (show w.heap.size ≤ w.heap.size + 1 by omega)
        have hip : Hid (wr.iterPos (w.heap.size + 1) = pos) := iterPos_of hit
        obtain ⟨ok, m', p', ah', be', sz', hcall, hyes, hno⟩ := take_step w.heap.size pos s[pos] (s.data.toList.drop (pos + 1)) m p ah be sz _ hB' (by omega) HREL.out.2.2.2.2
        generalize itNext wr (w.heap.size + 1) s (pos + 1) = W1 at *
        rw [hrun] at hyes hno
        have HC := Lib.hid hcall
        have HY := Lib.hid hyes
        have HN := Lib.hid hno
        have HI := Lib.hid hit'
        have HBE := Lib.hid hbel'
        clear hcall hyes hno hit' hB' hbel' hit hdrop hrun HREL
        generalize (s[pos]).toNat = cc at *
        cases ok with
        | true =>
          go_wp2_with (go_at_call 16; refine HC.out.mono ?_; rintro e w2 ⟨rfl, hu⟩)
          have hy := HY.out (by simp)
          have hi2 : w2.heap[w.heap.size + 1]? = some (.stringIter s (pos + 1)) := (hu.other (w.heap.size + 1) (by omega)).trans HI.out
          have hrel2 : ParseRel s w (pos + 1) m' p' ah' be' sz' w2 := ⟨hi2, hu.blk, HBE.out.trans (hu.below (Nat.le_refl _)), hy.1.symm.trans HRR.out.symm, hy.2⟩
          have hm2 : w2.iterPos (w.heap.size + 1) = pos + 1 := iterPos_of hi2
          go_roundw
          case rel => exact ⟨pos + 1, m', p', ah', be', sz', by omega, hrel2⟩
          case measure => rw [hm2, hip.out]; omega
        | false =>
          go_wp2_with (go_at_call 16; refine HC.out.mono ?_; rintro e w2 ⟨rfl, hu⟩)
          have hn := HN.out (by simp)
          go_ret2
          exact ⟨ret_pair (by rw [hn]) (by rw [hn]), HBE.out.trans (hu.below (Nat.le_refl _))⟩
      · have hnx : ∀ ty, (Instr.next (.pointer (some ⟨w.heap.size + 1, 0, none⟩)) true ty).run Tryd.prog wr = _ := fun ty => run_next_high wr (w.heap.size + 1) s pos ty hit hp
        have hbel' := itNext_below s (pos + (Utf8.decode s pos).2) HREL.out.2.2.1 (show w.heap.size ≤ w.heap.size + 1 by omega)
        have hhi := (decode_high s pos hp (by omega)).1
        rw [runV_high _ _ _ _ _ _ _ _ (by omega)] at hrun
        have HN : Hid (r = (0, 41)) := hrun.symm
        have HBE := Lib.hid hbel'
        clear hit hdrop hrun HREL hbel'
        generalize itNext wr (w.heap.size + 1) s (pos + (Utf8.decode s pos).2) = W1 at *
        generalize (Utf8.decode s pos).1 = cc at *
        have HC := Lib.hid (take_none w.heap.size pos (cc : Int) W1 (by omega) (by omega) (by omega))
        go_wp2_with (go_at_call 16; refine HC.out.mono ?_; rintro e w2 ⟨rfl, rfl⟩)
        go_ret2
        exact ⟨ret_pair (by rw [HN.out]) (by rw [HN.out]), HBE.out⟩
    · have hnx : ∀ ty, (Instr.next (.pointer (some ⟨w.heap.size + 1, 0, none⟩)) true ty).run Tryd.prog wr = .ok (.tuple #[.bool false]) wr := fun ty => run_next_over wr (w.heap.size + 1) s pos ty hit hp
      have hB := HREL.out.2.1
      have c0 : wr.cell? ⟨w.heap.size, 0, none⟩ = some (.bool m) := hB.cell 0
      have c1 : wr.cell? ⟨w.heap.size, 1, none⟩ = some (.bool p) := hB.cell 1
      have c2 : wr.cell? ⟨w.heap.size, 2, none⟩ = some (.int .i64 ah) := hB.cell 2
      have c3 : wr.cell? ⟨w.heap.size, 3, none⟩ = some (.int .i64 be) := hB.cell 3
      have c4 : wr.cell? ⟨w.heap.size, 4, none⟩ = some (.int .u64 sz) := hB.cell 4
      have hst := HREL.out.2.2.2.2
      have hend : Hid (amountN m be sz = r.1 ∧ amountE m be sz = r.2) := by
        have h4 := HREL.out.2.2.2.1
        rw [List.drop_eq_nil_iff.2 (by simp; omega), HRR.out] at h4
        exact ⟨by rw [← h4]; rfl, by rw [← h4]; rfl⟩
      have HBEL := Lib.hid HREL.out.2.2.1
      have HAM := Lib.hid (amount_any m p ah be sz wr hst.2.2.2.2.1 (by have := hst.2.2.2.2.2; omega))
      clear hit hB hst
      go_wp2_with fail
      refine HAM.out.mono ?_
      rintro e w1 ⟨rfl, hb1⟩
      go_wp2
      go_ret2
      exact ⟨ret_pair (by rw [← hend.out.1]) (by rw [← hend.out.2]), HBEL.out.trans (hb1.mono HBEL.out.size)⟩
end Go.Proofs.YtgdahhbigpcldaaDoor
