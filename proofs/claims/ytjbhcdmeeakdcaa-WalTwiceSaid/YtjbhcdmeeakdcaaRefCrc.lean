/- contraref03.Of: the long division, bit by bit. -/
import Derived.Test.YtjbhcdmeeakdcaaCrcBits
import Derived.Test.YtjbhcdmeeakdcaaAppB
import Derived.Test.YtjbhcdmeeakdcaaElt
import Derived.Test.YtjbhcdmeeakdcaaCrc
import Derived.Laws.BytesArg
namespace Go.Proofs.Ytjbhcdmeeakdcaa
open Go.RowKit
theorem eltB : EltB Try.prog 52 4 := by
  have h : (Try.prog.info? 4).map (fun i => (i.zero, i.size, i.bytes)) = some (some (.bool false), 1, 1) := by kernel_rfl
  cases hi : Try.prog.info? 4 with
  | none => rw [hi] at h; cases h
  | some i =>
    rw [hi] at h
    simp at h
    exact ⟨i, Try.underlying52, hi, h.1, h.2.1, h.2.2⟩
/-- The row of bits under way. -/
def BRel (w : World) (bs : List Bool) (v : Value) (wr : World) : Prop := OwnB wr w.heap.size 4 v bs ∧ Below w.heap.size w wr
def strNats (s : ByteArray) : List Nat := s.data.toList.map UInt8.toNat
theorem strNats_length (s : ByteArray) : (strNats s).length = s.size := by unfold strNats; rw [List.length_map]; rfl
theorem strNats_8 (s : ByteArray) : Bytes8 (strNats s) := by
  intro x hx
  obtain ⟨c, _, rfl⟩ := List.mem_map.mp hx
  exact c.toNat_lt
theorem bits8_getD (x k : Nat) (hk : k < 8) : (bits8 x).take (k + 1) = (bits8 x).take k ++ [x / 2 ^ k % 2 == 1] := by
  rw [List.take_succ_eq_append_getElem (by rw [bits8_length]; exact hk)]
  congr 1
  simp [bits8]
theorem bits_succ (s : ByteArray) (i : Nat) (h : i < s.size) : bitsL ((strNats s).take (i + 1)) = bitsL ((strNats s).take i) ++ bits8 (s[i]).toNat := by
  rw [List.take_succ_eq_append_getElem (by rw [strNats_length]; exact h)]
  unfold bitsL
  rw [List.flatMap_append]
  simp [strNats]
  rfl
theorem bit_val (x k : Nat) : (x / 2 ^ k % 2 == 1) = ((x : Int) / 2 ^ k % 2 == 1) := by
  have : ((x : Int) / 2 ^ k % 2) = ((x / 2 ^ k % 2 : Nat) : Int) := by push_cast; rfl
  rw [this]
  rcases (show x / 2 ^ k % 2 = 0 ∨ x / 2 ^ k % 2 = 1 by omega) with e | e <;> rw [e] <;> rfl
/-- The powers in a block of their own. -/
def powV : Array Value := #[.int .i64 0, .int .i64 6, .int .i64 9, .int .i64 10, .int .i64 16, .int .i64 20, .int .i64 21, .int .i64 22, .int .i64 24, .int .i64 25, .int .i64 27, .int .i64 28, .int .i64 30, .int .i64 31, .int .i64 32]
theorem powV_get (q : Nat) (hq : q < 15) : powV[q]? = some (.int .i64 ((powersL.getD q 0 : Nat) : Int)) ∧ powersL.getD q 0 ≤ 32 := by
  match q, hq with
  | 0, _ => exact ⟨rfl, by decide⟩
  | 1, _ => exact ⟨rfl, by decide⟩
  | 2, _ => exact ⟨rfl, by decide⟩
  | 3, _ => exact ⟨rfl, by decide⟩
  | 4, _ => exact ⟨rfl, by decide⟩
  | 5, _ => exact ⟨rfl, by decide⟩
  | 6, _ => exact ⟨rfl, by decide⟩
  | 7, _ => exact ⟨rfl, by decide⟩
  | 8, _ => exact ⟨rfl, by decide⟩
  | 9, _ => exact ⟨rfl, by decide⟩
  | 10, _ => exact ⟨rfl, by decide⟩
  | 11, _ => exact ⟨rfl, by decide⟩
  | 12, _ => exact ⟨rfl, by decide⟩
  | 13, _ => exact ⟨rfl, by decide⟩
  | 14, _ => exact ⟨rfl, by decide⟩
def flipsTo (D : List Bool) (k q : Nat) : List Bool := flipsAt D ((powersL.take q).map (k + ·))
theorem flipsTo_succ (D : List Bool) (k q : Nat) (hq : q < 15) : flipsTo D k (q + 1) = (flipsTo D k q).set (k + powersL.getD q 0) (!(flipsTo D k q).getD (k + powersL.getD q 0) false) := by
  unfold flipsTo
  rw [List.take_succ_eq_append_getElem (show q < powersL.length from hq), List.map_append, List.map_cons, List.map_nil, flipsAt_snoc, List.getD_eq_getElem?_getD, List.getElem?_eq_getElem (show q < powersL.length from hq)]
  rfl
theorem flipsTo_length (D : List Bool) (k q : Nat) : (flipsTo D k q).length = D.length := flipsAt_length _ _
theorem flipsTo_end (B : List Bool) (k : Nat) (h : (divTo B k).getD k false = true) : flipsTo (divTo B k) k 15 = divTo B (k + 1) := by
  show _ = divAt (divTo B k) k
  unfold divAt
  rw [if_pos h]; rfl
theorem divTo_no (B : List Bool) (k : Nat) (h : (divTo B k).getD k false = false) : divTo B (k + 1) = divTo B k := by
  show divAt (divTo B k) k = _
  unfold divAt
  rw [h]; rfl
/-- What is told at the end. -/
def tellN (D : List Bool) (m : Nat) : Nat := fullN ^^^ (bvN D / 2 ^ m)
theorem tell_bit (D : List Bool) (m q : Nat) (hq : q < 32) : (tellN D m).testBit q = !D.getD (m + q) false := by
  unfold tellN
  rw [Nat.testBit_xor, ← Nat.shiftRight_eq_div_pow, Nat.testBit_shiftRight, bvN_bit, show fullN = 2 ^ 32 - 1 from rfl, Nat.testBit_two_pow_sub_one]
  simp [hq]
theorem tell_lt (D : List Bool) (m q : Nat) (hq : q ≤ 32) : tellN D m % 2 ^ q < 4294967296 := Nat.lt_of_lt_of_le (Nat.mod_lt _ (Nat.pow_pos (by decide))) (Nat.le_trans (Nat.pow_le_pow_right (by decide) hq) (by decide))
theorem tell_yes (D : List Bool) (m q : Nat) (hq : q < 32) (h : D.getD (m + q) false = false) : tellN D m % 2 ^ (q + 1) = tellN D m % 2 ^ q + 2 ^ q := by
  rw [tell_step, tell_bit D m q hq, h]; rfl
theorem tell_no (D : List Bool) (m q : Nat) (hq : q < 32) (h : D.getD (m + q) false = true) : tellN D m % 2 ^ (q + 1) = tellN D m % 2 ^ q := by
  rw [tell_step, tell_bit D m q hq, h]; rfl
theorem ret_i64n {a b : Nat} (h : a = b) : Ending.returned (.int .i64 (a : Int)) = .returned (.int .i64 (b : Int)) := by rw [h]
def DRel (w : World) (h : Nat) (bs : List Bool) (v : Value) (wr : World) : Prop := OwnB wr w.heap.size 4 v bs ∧ Below w.heap.size w wr ∧ Blk wr h powV 3
theorem flip_succ (bs : List Bool) (q : Nat) : flipsAt bs (List.range (q + 1)) = (flipsAt bs (List.range q)).set q (!(flipsAt bs (List.range q)).getD q false) := by
  rw [List.range_succ, flipsAt_snoc]; rfl
set_option maxHeartbeats 8000000 in
set_option maxRecDepth 100000 in
theorem refcrc_any (s : ByteArray) (w : World) (hs : s.size ≤ 20000) :
    Calls Try.prog 55 #[.string s] w fun e w' => e = .returned (.int .i64 (checkN (strNats s) : Nat)) ∧ Below w.heap.size w w' := by
  have HS0 : Hid (BRel w [] (.slice none 0 0) w) := ⟨OwnB.nil_ _ _ _, Below.refl _ _⟩
  have HLN := Lib.hid (strNats_length s)
  go_enter Try.func55, Try.ntmps55
  go_wp2_with fail
  go_loopw [3, 4, 5] (fun v i _ wr => ∃ k : Nat, k ≤ s.size ∧ i = .int .i64 k ∧ Hid (BRel w (bitsL ((strNats s).take k)) v wr)) (fun _ i _ _ => s.size - (intOf i).toNat)
  case atStart => exact ⟨0, by omega, rfl, HS0⟩
  case round =>
    obtain ⟨k, hk, rfl, HK⟩ := hrel
    by_cases hlt : k < s.size
    · have HSUC := Lib.hid (bits_succ s k hlt)
      have hbl : (bitsL ((strNats s).take k)).length = 8 * k := by rw [bitsL_length, List.length_take, HLN.out, Nat.min_eq_left (by omega)]
      have HBL := Lib.hid hbl
      have hx : (s[k].toNat : Int) < 256 := by have := s[k].toNat_lt; omega
      have hx0 : (0 : Int) ≤ (s[k].toNat : Int) := by omega
      clear hbl
      go_wp2_with fail
      go_loopw [3, 5] (fun v j wr => ∃ q : Nat, q ≤ 8 ∧ j = .int .i64 q ∧ Hid (BRel w (bitsL ((strNats s).take k) ++ (bits8 s[k].toNat).take q) v wr)) (fun _ j _ => 8 - (intOf j).toNat)
      case atStart => exact ⟨0, by omega, rfl, by simpa using HK⟩
      case round =>
        obtain ⟨q, hq, rfl, HQ⟩ := hrel
        by_cases hq8 : q < 8
        · have hq8' : (q : Int) < 8 := by omega
          have HZ := Lib.hid HQ.out.2.size
          have HLB : Hid ((bitsL ((strNats s).take k) ++ (bits8 s[k].toNat).take q).length = 8 * k + q) := by show _ = _; rw [List.length_append, HBL.out, List.length_take, bits8_length, Nat.min_eq_left (by omega)]
          have HG := Lib.hid (bits8_getD s[k].toNat q hq8)
          obtain ⟨pv, cv, hv⟩ := HQ.out.1.form
          rw [HLB.out] at hv
          have hQ := HQ.out
          rw [hv] at hQ
          have HQv := Lib.hid hQ
          subst hv
          clear hQ
          have hnn : (0 : Int) ≤ (s[k].toNat : Int) / 2 ^ q := Int.ediv_nonneg hx0 (Int.le_of_lt (Int.pow_pos (by decide)))
          go_wp2_with (at_builtin; go_loud (refine wpList_append_bit rfl (.tmp 23) (.tmp 31) 52 rfl 4 4 w.heap.size eltB _ (bitsL ((strNats s).take k) ++ (bits8 s[k].toNat).take q) _ _ rfl rfl rfl HQv.out.1 (by have := HLB.out; omega) HZ.out (8 * k + q + 1) (by have := HLB.out; omega) ?_; intro p' c' w' ho hb; have HN : Hid (BRel w (bitsL ((strNats s).take k) ++ (bits8 s[k].toNat).take (q + 1)) (.slice p' (8 * k + q + 1) c') w') := (by refine ⟨?_, HQ.out.2.trans hb⟩; rw [HG.out, ← List.append_assoc, bit_val]; exact ho); clear ho hb))
          go_roundw
          case rel => exact ⟨q + 1, by omega, by go_num, HN⟩
          case measure => simp [intOf]; omega
        · have hq8' : (8 : Int) ≤ (q : Int) := by omega
          have hQ := HQ.out
          rw [show (bits8 s[k].toNat).take q = bits8 s[k].toNat from List.take_of_length_le (by rw [bits8_length]; omega), ← HSUC.out] at hQ
          have HQ2 := Lib.hid hQ
          clear hQ
          go_wp2_with fail
          go_roundw
          case rel => exact ⟨k + 1, by omega, by go_num, HQ2⟩
          case measure => simp [intOf]; omega
    · have hkn : (s.size : Int) ≤ (k : Int) := by omega
      have hK := HK.out
      rw [List.take_of_length_le (by rw [HLN.out]; omega)] at hK
      have hB0 : (bitsL (strNats s)).length = 8 * s.size := by rw [bitsL_length, HLN.out]
      have HB0 := Lib.hid hB0
      have hK2 := hK
      rw [show bitsL (strNats s) = bitsL (strNats s) ++ List.replicate 0 false by simp] at hK2
      have HK0 := Lib.hid hK2
      clear hK2
      have H8 := Lib.hid (strNats_8 s)
      have HLC := Lib.hid (long_check (strNats s) H8.out)
      rw [HLN.out] at HLC
      generalize bitsL (strNats s) = B0 at *
      clear hK hB0
      go_wp2_with fail
      go_loopw [3, 6] (fun v j wr => ∃ q : Nat, q ≤ 32 ∧ j = .int .i64 q ∧ Hid (BRel w (B0 ++ List.replicate q false) v wr)) (fun _ j _ => 32 - (intOf j).toNat)
      case atStart => exact ⟨0, by omega, rfl, HK0⟩
      case round =>
        obtain ⟨q, hq, rfl, HQ⟩ := hrel
        have HLB : Hid ((B0 ++ List.replicate q false).length = 8 * s.size + q) := by show _ = _; rw [List.length_append, HB0.out, List.length_replicate]
        by_cases hq8 : q < 32
        · have hq8' : (q : Int) < 32 := by omega
          have HZ := Lib.hid HQ.out.2.size
          obtain ⟨pv, cv, hv⟩ := HQ.out.1.form
          rw [HLB.out] at hv
          have hQ := HQ.out
          rw [hv] at hQ
          have HQv := Lib.hid hQ
          subst hv
          clear hQ
          go_wp2_with (at_builtin; go_loud (refine wpList_append_bit rfl (.tmp 37) (.tmp 38) 52 rfl 4 4 w.heap.size eltB _ (B0 ++ List.replicate q false) _ _ rfl rfl rfl HQv.out.1 (by have := HLB.out; omega) HZ.out (8 * s.size + q + 1) (by have := HLB.out; omega) ?_; intro p' c' w' ho hb; have HN : Hid (BRel w (B0 ++ List.replicate (q + 1) false) (.slice p' (8 * s.size + q + 1) c') w') := (by refine ⟨?_, HQ.out.2.trans hb⟩; rw [List.replicate_succ', ← List.append_assoc]; exact ho); clear ho hb))
          go_roundw
          case rel => exact ⟨q + 1, by omega, by go_num, HN⟩
          case measure => simp [intOf]; omega
        · have hq8' : (32 : Int) ≤ (q : Int) := by omega
          obtain rfl : q = 32 := by omega
          obtain ⟨p1, c1, hv1⟩ := HQ.out.1.form
          rw [HLB.out] at hv1
          have hQ := HQ.out
          rw [hv1] at hQ
          obtain ⟨g, rfl, hgb, hgl, hlen1⟩ := hQ.1.at_ (by omega)
          have hQ0 := hQ
          rw [show B0 ++ List.replicate 32 false = flipsAt (B0 ++ List.replicate 32 false) (List.range 0) from rfl] at hQ0
          have HQ0 := Lib.hid hQ0
          clear hQ0
          have HGB := Lib.hid hgb
          have hB1 : (B0 ++ List.replicate 32 false).length = 8 * s.size + 32 := HLB.out
          subst hv1
          clear hQ hgb hgl hlen1 HLB
          generalize hB1' : B0 ++ List.replicate 32 false = B1 at *
          have HB1 := Lib.hid hB1
          clear hB1 hB1'
          have HF32 : Hid (flip32 B1 = flipsAt B1 (List.range 32)) := rfl
          generalize hL : 8 * s.size + 32 = L at *
          have HL := Lib.hid hL
          have hLb : L ≤ 160032 := by omega
          have hL32 : 32 ≤ L := by omega
          clear hL
          go_wp2_with fail
          go_loopw [7] (fun j wr => ∃ q : Nat, q ≤ 32 ∧ j = .int .i64 q ∧ Hid (BRel w (flipsAt B1 (List.range q)) (.slice (some ⟨g, 0, none⟩) L c1) wr)) (fun j _ => 32 - (intOf j).toNat)
          case atStart => exact ⟨0, by omega, rfl, HQ0⟩
          case round =>
            obtain ⟨q, hq, rfl, HQ1⟩ := hrel
            by_cases hq8 : q < 32
            · have hq8' : (q : Int) < 32 := by omega
              obtain ⟨hcell, hfree⟩ := HQ1.out.1.cell q (by omega)
              have HSU := Lib.hid (flip_succ B1 q)
              generalize hx : (flipsAt B1 (List.range q)).getD q false = x at *
              have HX := Lib.hid hx
              clear hx
              go_wp2_with fail
              go_roundw
              case rel => exact ⟨q + 1, by omega, by go_num, Lib.hid ⟨by rw [HSU.out]; exact HQ1.out.1.set q _, HQ1.out.2.setCell (p := ⟨g, q, none⟩) HGB.out _⟩⟩
              case measure => simp [intOf]; omega
            · have hq8' : (32 : Int) ≤ (q : Int) := by omega
              obtain rfl : q = 32 := by omega
              have hgl : g < wr.heap.size := HQ1.out.1.lt g rfl
              have HD0 : Hid (DRel w wr.heap.size (divTo (flipsAt B1 (List.range 32)) 0) (.slice (some ⟨g, 0, none⟩) L c1) (wr.alloc (.cells powV 3))) := ⟨HQ1.out.1.alloc _, HQ1.out.2.alloc HQ1.out.2.size _, Blk.new _ _ _⟩
              have HHG : Hid (wr.heap.size ≠ g) := by show _ ≠ _; omega
              rw [← HF32.out] at HD0
              have HFL : Hid ((flip32 B1).length = L) := by show _ = _; unfold flip32; rw [flipsAt_length, HB1.out]
              generalize flip32 B1 = B2 at *
              generalize hh : wr.heap.size = h at *
              clear hgl
              unfold powV at HD0
              go_wp2_with fail
              go_loopw [9, 10] (fun i _ wq => ∃ k : Nat, k ≤ 8 * s.size ∧ i = .int .i64 k ∧ Hid (DRel w h (divTo B2 k) (.slice (some ⟨g, 0, none⟩) L c1) wq)) (fun i _ _ => 8 * s.size - (intOf i).toNat)
              case atStart => exact ⟨0, by omega, rfl, HD0⟩
              case round =>
                obtain ⟨k3, hk3, rfl, HD⟩ := hrel
                by_cases hlt3 : k3 + 32 < L
                · have hlt3' : (k3 : Int) + 32 < (L : Int) := by omega
                  obtain ⟨hcell, _⟩ := HD.out.1.cell k3 (by omega)
                  have HLk : Hid (k3 < 8 * s.size) := by show _ < _; have := HL.out; omega
                  have HDL : Hid ((divTo B2 k3).length = L) := by show _ = _; rw [divTo_length, HFL.out]
                  cases hx : (divTo B2 k3).getD k3 false
                  · rw [hx] at hcell
                    have HNO := Lib.hid (divTo_no B2 k3 hx)
                    clear hx
                    go_wp2_with fail
                    go_roundw
                    case rel => exact ⟨k3 + 1, HLk.out, by go_num, by rw [HNO.out]; exact HD⟩
                    case measure => simp [intOf]; have := HLk.out; omega
                  · rw [hx] at hcell
                    have HYES := Lib.hid (flipsTo_end B2 k3 hx)
                    clear hx
                    go_wp2_with fail
                    go_loopw [10] (fun j wq => ∃ q : Nat, q ≤ 15 ∧ j = .int .i64 q ∧ Hid (DRel w h (flipsTo (divTo B2 k3) k3 q) (.slice (some ⟨g, 0, none⟩) L c1) wq)) (fun j _ => 15 - (intOf j).toNat)
                    case atStart => exact ⟨0, by omega, rfl, HD⟩
                    case round =>
                      obtain ⟨q, hq, rfl, HQ2⟩ := hrel
                      by_cases hq15 : q < 15
                      · have hq15' : (q : Int) < 15 := by omega
                        obtain ⟨hpg, hp32⟩ := powV_get q hq15
                        have hpc := (HQ2.out.2.2.cell q).trans hpg
                        have HSU := Lib.hid (flipsTo_succ (divTo B2 k3) k3 q hq15)
                        generalize powersL.getD q 0 = pw at *
                        obtain ⟨hc2, hf2⟩ := HQ2.out.1.cell (k3 + pw) (by omega)
                        generalize hx : (flipsTo (divTo B2 k3) k3 q).getD (k3 + pw) false = x at *
                        have HX := Lib.hid hx
                        have hs1 : IntKind.i64.wrap ((k3 : Int) + (pw : Int)) = (k3 : Int) + (pw : Int) := IntWalk.i64_in _ (by omega)
                        have hs0 : (0 : Int) ≤ (k3 : Int) + (pw : Int) := by omega
                        have hs2 : ((k3 : Int) + (pw : Int)).toNat = k3 + pw := by omega
                        have hkL : k3 + pw < L := by omega
                        clear hx hpg
                        go_wp2_with fail
                        go_region
                        go_wp2_with fail
                        go_roundw
                        case rel => exact ⟨q + 1, by omega, by go_num, Lib.hid ⟨by rw [HSU.out]; exact HQ2.out.1.set (k3 + pw) _, (HQ2.out.2.1.setCell (p := ⟨g, k3 + pw, none⟩) HGB.out _).drew, (HQ2.out.2.2.setOther (a := ⟨g, k3 + pw, none⟩) (Ne.symm HHG.out) _).drew⟩⟩
                        case measure => simp [intOf]; omega
                      · have hq15' : (15 : Int) ≤ (q : Int) := by omega
                        obtain rfl : q = 15 := by omega
                        have hQ2 := HQ2.out
                        rw [HYES.out] at hQ2
                        have HQ3 := Lib.hid hQ2
                        clear hQ2
                        go_wp2_with fail
                        go_roundw
                        case rel => exact ⟨k3 + 1, HLk.out, by go_num, HQ3⟩
                        case measure => simp [intOf]; have := HLk.out; omega
                · have hlt3' : (L : Int) ≤ (k3 : Int) + 32 := by omega
                  have hk8 : k3 = 8 * s.size := by have := HL.out; omega
                  have hD := HD.out
                  rw [hk8] at hD
                  have HLC2 : Hid (tellN (divTo B2 (8 * s.size)) (8 * s.size) = checkN (strNats s)) := HLC.out
                  have HDO := Lib.hid hD.1
                  have HDB := Lib.hid hD.2.1
                  clear hD hk8
                  generalize divTo B2 (8 * s.size) = D at *
                  go_wp2_with fail
                  go_loop [11, 12] (fun t j => ∃ q : Nat, q ≤ 32 ∧ j = .int .i64 q ∧ t = .int .i64 (tellN D (8 * s.size) % 2 ^ q : Nat)) (fun _ j => 32 - (intOf j).toNat)
                  case atStart => exact ⟨0, by omega, rfl, by rw [Nat.pow_zero, Nat.mod_one]; rfl⟩
                  case round =>
                    obtain ⟨q, hq, rfl, rfl⟩ := hrel
                    by_cases hq32 : q < 32
                    · have hq32' : (q : Int) < 32 := by omega
                      have hsub1 : ((L : Int) - 32 + (q : Int)).toNat = L - 32 + q := by omega
                      have hidx : L - 32 + q = 8 * s.size + q := by have := HL.out; omega
                      have hsub : ((L : Int) - 32 + (q : Int)) = ((8 * s.size + q : Nat) : Int) := by have := HL.out; omega
                      obtain ⟨hcell, _⟩ := HDO.out.cell (8 * s.size + q) (by have := HL.out; omega)
                      have htl := tell_lt D (8 * s.size) q hq
                      have hp2 : (2 : Int) ^ q < 4294967296 := by
                        have h1 : 2 ^ q < 2 ^ 32 := Nat.pow_lt_pow_right (by decide) hq32
                        have h2 : ((2 ^ q : Nat) : Int) = (2 : Int) ^ q := Int.natCast_pow 2 q
                        rw [← h2]
                        exact Int.ofNat_lt.mpr h1
                      have hp0 : (0 : Int) ≤ (2 : Int) ^ q := Int.le_of_lt (Int.pow_pos (by decide))
                      cases hx : D.getD (8 * s.size + q) false
                      · rw [hx] at hcell
                        have HT := Lib.hid (tell_yes D (8 * s.size) q hq32 hx)
                        clear hx hsub1
                        go_wp2_with fail
                        go_round
                        case rel => exact ⟨q + 1, by omega, by go_num, by first | (rw [HT.out]; done) | (rw [HT.out]; push_cast; rfl)⟩
                        case measure => simp [intOf]; omega
                      · rw [hx] at hcell
                        have HT := Lib.hid (tell_no D (8 * s.size) q hq32 hx)
                        clear hx hsub1
                        go_wp2_with fail
                        go_round
                        case rel => exact ⟨q + 1, by omega, by go_num, by first | (rw [HT.out]; done) | (rw [HT.out]; push_cast; rfl)⟩
                        case measure => simp [intOf]; omega
                    · have hq32' : (32 : Int) ≤ (q : Int) := by omega
                      have hq0 : q = 32 := by omega
                      have HFIN : Hid (tellN D (8 * s.size) % 2 ^ q = checkN (strNats s)) := by
                        show _ = _
                        rw [hq0, HLC2.out]
                        exact Nat.mod_eq_of_lt (checkN_lt H8.out)
                      clear hq0
                      go_wp2_with fail
                      go_ret
                      exact ⟨ret_i64n HFIN.out, HDB.out⟩
end Go.Proofs.Ytjbhcdmeeakdcaa
