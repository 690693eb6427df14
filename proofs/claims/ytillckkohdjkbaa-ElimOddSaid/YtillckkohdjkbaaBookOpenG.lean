/- (book.Book).agreed, Open by contract. -/
import Derived.Test.YtillckkohdjkbaaBookOpen
import Derived.Test.YtillckkohdjkbaaBookDel
import Derived.Test.YtillckkohdjkbaaBookOpen2
namespace Go.Proofs.Ytillckkohdjkbaa
open Go.RowKit
def keepI (cur oth : Int) (x : Itm) : Bool := !dropI cur oth x
theorem Kept3.keptB {B : Nat} {w w' : World} {bf bc bo : Nat} {cur oth : Int} (h : Kept3 w bf bc bo cur oth) (hb : Below B w w') (h1 : bf < B) (h2 : bc < B) (h3 : bo < B) : Kept3 w' bf bc bo cur oth :=
  ⟨(hb.cell (p := ⟨bf, 0, none⟩) h1).trans h.1, (hb.cell (p := ⟨bc, 0, none⟩) h2).trans h.2.1, (hb.cell (p := ⟨bo, 0, none⟩) h3).trans h.2.2⟩
set_option linter.unusedSimpArgs false in
set_option maxHeartbeats 4000000 in
set_option maxRecDepth 100000 in
theorem agreed_any (w : World) (me : Int) (pi po : Option Addr) (ni ci no co : Nat) (xs : List Itm) (cur oth : Int) (bc bo : Nat) (hr : TRow encI w (.slice pi ni ci) xs) (hc : w.cell? ⟨bc, 0, none⟩ = some (.int .i64 cur)) (ho : w.cell? ⟨bo, 0, none⟩ = some (.int .i64 oth)) (hn : xs.length ≤ 2000) :
    Calls Try.prog 40 #[bookV me (.slice pi ni ci) (.slice po no co), (.func (.func 41) #[] #[.pointer (some ⟨bc, 0, none⟩), .pointer (some ⟨bo, 0, none⟩)])] w fun e w' => ∃ v', e = .returned v' ∧ OwnT encI w' w.heap.size 39 v' (xs.filter (keepI cur oth)) ∧ Below w.heap.size w w' := by
  have hmf : ∀ (fn : Fn) (first cap : Array Value) (w : World), (Instr.makeFunc fn first cap).run Try.prog w = .ok (.func fn first cap) w := fun _ _ _ _ => rfl
  have hbc := World.block_lt_of_cell? w _ hc
  have hbo := World.block_lt_of_cell? w _ ho
  have hW0 : ∀ T, Below w.heap.size w ((w.alloc (.cells #[.int .i64 me, .slice pi ni ci, .slice po no co] 26)).alloc (.cells #[(.func (.func 41) #[] #[.pointer (some ⟨bc, 0, none⟩), .pointer (some ⟨bo, 0, none⟩)])] T)) := fun T => (oneB w _).alloc (by simp) _
  have HCL := Lib.hid (fun T => cloneI_any _ (.slice pi ni ci) xs (hr.kept (hW0 T)) hn)
  have HK3 : Hid (∀ T, Kept3 ((w.alloc (.cells #[.int .i64 me, .slice pi ni ci, .slice po no co] 26)).alloc (.cells #[(.func (.func 41) #[] #[.pointer (some ⟨bc, 0, none⟩), .pointer (some ⟨bo, 0, none⟩)])] T)) (w.heap.size + 1) bc bo cur oth) := fun T => ⟨(Blk.new' _ _ _ (by simp)).cell 0, ((hW0 T).cell (p := ⟨bc, 0, none⟩) hbc).trans hc, ((hW0 T).cell (p := ⟨bo, 0, none⟩) hbo).trans ho⟩
  have HW0 := Lib.hid hW0
  have HBC := Lib.hid hbc
  have HBO := Lib.hid hbo
  clear hr hc ho hW0 hbc hbo
  unfold bookV
  go_enter Try.func40, Try.ntmps40
  go_wp2_with fail
  have HS0 : Hid (((w.alloc (.cells #[.int .i64 me, .slice pi ni ci, .slice po no co] 26)).alloc (.cells #[(.func (.func 41) #[] #[.pointer (some ⟨bc, 0, none⟩), .pointer (some ⟨bo, 0, none⟩)])] 83)).heap.size = w.heap.size + 1 + 1) := by show _ = _; simp
  refine (HCL.out _).mono ?_
  rintro y w1 ⟨v1, rfl, ho1, hb1⟩
  have HB := Lib.hid ((HW0.out 83).trans (hb1.mono (HW0.out _).size))
  have HSAY : Hid (Says (dropI cur oth) (w.heap.size + 1 + 1) (w.heap.size + 1) w1) := fun W hb x => by
    have k := ((HK3.out 83).kept hb1).keptB hb (Nat.lt_succ_self _) (Nat.lt_succ_of_lt (Nat.lt_succ_of_lt HBC.out)) (Nat.lt_succ_of_lt (Nat.lt_succ_of_lt HBO.out))
    exact drop_any W x cur oth _ bc bo k.1 k.2.1 k.2.2
  have hsz : w.heap.size + 1 + 1 ≤ w1.heap.size := by rw [← HS0.out]; exact hb1.size
  rw [HS0.out] at ho1
  have HD := Lib.hid (delete_any w1 v1 xs (dropI cur oth) (w.heap.size + 1 + 1) (w.heap.size + 1) ho1 HSAY.out hsz hn)
  clear ho1 hb1 HCL HK3 HW0 HSAY
  go_wp2_with fail
  refine HD.out.mono ?_
  rintro y w2 ⟨v2, rfl, ho2, hb2⟩
  have HO2 : Hid (OwnT encI w2 (w.heap.size + 1 + 1) 39 v2 (xs.filter (keepI cur oth))) := ho2
  have HB2 := Lib.hid (HB.out.trans (hb2.mono (by omega)))
  clear hb2 HD ho2
  obtain ⟨p1, c1, hv1⟩ := HO2.out.form
  generalize (xs.filter (keepI cur oth)).length = n1 at hv1
  subst hv1
  go_wp2_with fail
  go_ret
  exact ⟨_, rfl, HO2.out.less (by omega), HB2.out⟩
set_option linter.unusedSimpArgs false in
set_option maxHeartbeats 4000000 in
set_option maxRecDepth 100000 in
theorem open_any (w : World) (me : Int) (pi po : Option Addr) (ni ci no co : Nat) (xs : List Itm) (cur oth S E : Int) (hr : TRow encI w (.slice pi ni ci) xs) (hn : xs.length ≤ 2000) (ha : ∀ x ∈ xs, 1 ≤ x.a ∧ x.a ≤ 1125899906842624) (hS : sumN ((xs.filter (keepI cur oth)).map (amtI me)).sum = S) (hE : sumE ((xs.filter (keepI cur oth)).map (amtI me)).sum = E) :
    Calls Try.prog 26 #[bookV me (.slice pi ni ci) (.slice po no co), .int .i64 cur, .int .i64 oth] w fun e w' => e = .returned (.tuple #[.int .i64 S, .int .i64 E]) ∧ Below w.heap.size w w' := by
  obtain ⟨ys, hys⟩ : ∃ ys, xs.filter (keepI cur oth) = ys := ⟨_, rfl⟩
  have hAGR := fun (W : World) (bc bo : Nat) (hb : Below w.heap.size w W) (hc : W.cell? ⟨bc, 0, none⟩ = some (.int .i64 cur)) (ho : W.cell? ⟨bo, 0, none⟩ = some (.int .i64 oth)) => agreed_any W me pi po ni ci no co xs cur oth bc bo (hr.kept hb) hc ho hn
  have ha : ∀ x ∈ ys, 1 ≤ x.a ∧ x.a ≤ 1125899906842624 := fun x hx => by rw [← hys] at hx; exact ha x (List.mem_filter.1 hx).1
  have hn : ys.length ≤ 2000 := by rw [← hys]; exact Nat.le_trans (List.length_filter_le _ _) hn
  rw [hys] at hS hE hAGR
  clear hr hys
  have hmf : ∀ (fn : Fn) (first cap : Array Value) (w : World), (Instr.makeFunc fn first cap).run Try.prog w = .ok (.func fn first cap) w := fun _ _ _ _ => rfl
  have H64 : Hid (All64 (ys.map (amtI me))) := fun z hz => by
    obtain ⟨x, hx, rfl⟩ := List.mem_map.1 hz
    have := ha x hx
    unfold amtI
    split <;> constructor <;> omega
  have HSU : Hid (∀ W v, Row .i64 W v (ys.map (amtI me)) → Calls Try.prog 28 #[v] W (SumTo (ys.map (amtI me)).sum W)) := fun W v h => sum_any v _ W (by rw [List.length_map]; omega) H64.out h
  have HA := Lib.hid ha
  have HS := Lib.hid hS
  have HE := Lib.hid hE
  have HAG := Lib.hid (fun (W : World) (bc bo : Nat) (hb : Below w.heap.size w W) (hc : W.cell? ⟨bc, 0, none⟩ = some (.int .i64 cur)) (ho : W.cell? ⟨bo, 0, none⟩ = some (.int .i64 oth)) => hAGR W bc bo hb hc ho)
  clear ha hS hE H64 hAGR
  generalize hl : ys.length = n at *
  have HL := Lib.hid hl
  clear hl
  unfold bookV at *
  go_enter Try.func26, Try.ntmps26
  go_wp2_with fail
  generalize hW1 : ((w.alloc (.cells #[.int .i64 me, .slice pi ni ci, .slice po no co] 26)).alloc (.cells #[.int .i64 cur] 3)).alloc (.cells #[.int .i64 oth] 3) = W1
  have HB1 : Hid (Below w.heap.size w W1) := by show Below _ _ _; rw [← hW1]; exact ((oneB w _).alloc (by simp) _).alloc (by simp <;> omega) _
  have HK1 : Hid (Blk W1 w.heap.size #[.int .i64 me, .slice pi ni ci, .slice po no co] 26) := by show Blk _ _ _ _; rw [← hW1]; exact ((Blk.new w _ _).alloc _).alloc _
  have HC1 : Hid (Blk W1 (w.heap.size + 1) #[.int .i64 cur] 3) := by show Blk _ _ _ _; rw [← hW1]; exact (Blk.new' _ _ _ (by simp)).alloc _
  have HO1 : Hid (Blk W1 (w.heap.size + 1 + 1) #[.int .i64 oth] 3) := by show Blk _ _ _ _; rw [← hW1]; exact Blk.new' _ _ _ (by simp)
  clear hW1
  refine (HAG.out W1 _ _ HB1.out (HC1.out.cell 0) (HO1.out.cell 0)).mono ?_
  rintro y W2 ⟨v1, rfl, ho1, hb1⟩
  obtain ⟨p1, c1, hv1⟩ := ho1.form
  rw [HL.out] at hv1
  subst hv1
  have HR := Lib.hid ho1.row
  have HB2 := Lib.hid (HB1.out.trans (hb1.mono HB1.out.size))
  have HK2 := Lib.hid (HK1.out.below hb1 HK1.out.lt)
  clear ho1 hb1 HAG HK1 HC1 HO1 HB1
  have HREL : Hid (ORel W2 me ys 0 (.slice none 0 0) W2) := ⟨Own.nil_ _ _ _ _, Below.refl _ _⟩
  go_wp2_with fail
  go_loopw [9, 17] (fun v i wr => ∃ k : Nat, k ≤ n ∧ i = .int .i64 k ∧ Hid (ORel W2 me ys k v wr)) (fun _ i _ => n - (intOf i).toNat)
  case atStart => exact ⟨0, by omega, rfl, HREL⟩
  case round =>
    obtain ⟨k, hk, rfl, HK⟩ := hrel
    clear HREL
    by_cases hlt : k < n
    · have hkl : k < ys.length := by rw [HL.out]; exact hlt
      have hltI : (k : Int) < (n : Int) := by omega
      have HTK : Hid (ys.take (k + 1) = ys.take k ++ [ys[k]]) := List.take_succ_eq_append_getElem hkl
      obtain ⟨b, o, rfl, hbl, hcs⟩ := (HR.out.kept HK.out.2).at_ k hkl
      have hax := HA.out _ (List.getElem_mem hkl)
      generalize ys[k] = x at *
      have c0 : wr.cell? ⟨b, o + k * 8, none⟩ = some (.int .i64 x.s) := hcs 0 (by decide)
      have c1 : wr.cell? ⟨b, o + k * 8 + 1, none⟩ = some (.int .i64 x.n) := hcs 1 (by decide)
      have c2 : wr.cell? ⟨b, o + k * 8 + 2, none⟩ = some (.int .i64 x.b) := hcs 2 (by decide)
      have c3 : wr.cell? ⟨b, o + k * 8 + 3, none⟩ = some (.int .i64 x.c) := hcs 3 (by decide)
      have c4 : wr.cell? ⟨b, o + k * 8 + 4, none⟩ = some (.int .i64 x.a) := hcs 4 (by decide)
      have c5 : wr.cell? ⟨b, o + k * 8 + 5, none⟩ = some (.int .i64 x.r) := hcs 5 (by decide)
      have c6 : wr.cell? ⟨b, o + k * 8 + 6, none⟩ = some (.int .i64 x.t) := hcs 6 (by decide)
      have c7 : wr.cell? ⟨b, o + k * 8 + 7, none⟩ = some (.int .i64 x.y) := hcs 7 (by decide)
      have b0 : wr.cell? ⟨w.heap.size, 0, none⟩ = some (.int .i64 me) := (HK2.out.below HK.out.2 HK2.out.lt).cell 0
      have HSUC : Hid ((ys.take (k + 1)).map (amtI me) = (ys.take k).map (amtI me) ++ [amtI me x]) := by
        show _ = _
        rw [HTK.out, List.map_append]; rfl
      have HZL : Hid (((ys.take k).map (amtI me)).length ≤ 2000) := by show _ ≤ _; rw [List.length_map, List.length_take]; omega
      obtain ⟨ho1, hw1⟩ := HK.out
      obtain ⟨p2, c2, hv2⟩ := ho1.form
      generalize hz : (ys.take k).map (amtI me) = zs at *
      generalize hm : zs.length = m at *
      subst hv2
      have hm2 : m ≤ 2000 := HZL.out
      have HM := Lib.hid hm
      have HO1 := Lib.hid (ho1.alloc (.cells #[.int .i64 x.s, .int .i64 x.n, .int .i64 x.b, .int .i64 x.c, .int .i64 x.a, .int .i64 x.r, .int .i64 x.t, .int .i64 x.y] 39))
      have HBR := Lib.hid hw1
      have HSZ : Hid (W2.heap.size ≤ wr.heap.size) := hw1.size
      clear ho1 hw1 HK hz hm HTK hcs
      have b0' : (wr.alloc (.cells #[.int .i64 x.s, .int .i64 x.n, .int .i64 x.b, .int .i64 x.c, .int .i64 x.a, .int .i64 x.r, .int .i64 x.t, .int .i64 x.y] 39)).cell? ⟨w.heap.size, 0, none⟩ = some (.int .i64 me) := ((oneB wr _).cell (p := ⟨w.heap.size, 0, none⟩) (World.block_lt_of_cell? wr _ b0)).trans b0
      by_cases hs : x.s = me
      · have e1 : (x.s == me) = true := by simpa using hs
        have HAM : Hid (amtI me x = x.a) := if_pos hs
        rw [HAM.out] at HSUC
        clear hs
        go_wp2_with (at_builtin; with_reducible refine stop_appendI (.tmp 27) (.tmp 30) 34 rfl ?_)
        refine wpList_append_row rfl (.tmp 27) (.tmp 30) 34 rfl 2 .i64 8 W2.heap.size eltA (.slice p2 m c2) (.slice (some ⟨wr.heap.size + 1, 0, none⟩) 1 1) zs [x.a] rfl rfl (HO1.out.alloc (.cells #[.int .i64 (x.a)] 2)) ⟨some ⟨wr.heap.size + 1, 0, none⟩, 1, rfl, Nat.le_refl _, .inr ⟨wr.heap.size + 1, 0, rfl, fun i hi => ?_⟩⟩ (by have := HM.out; simp; omega) (by have := HM.out; simp; omega) (by have := HSZ.out; simp at this ⊢; omega) (zs ++ [x.a]) (m + 1) rfl (by rw [List.length_append, HM.out]; rfl) ?_
        · obtain rfl : i = 0 := by simp at hi; omega
          exact (Blk.new' (wr.alloc (.cells #[.int .i64 x.s, .int .i64 x.n, .int .i64 x.b, .int .i64 x.c, .int .i64 x.a, .int .i64 x.r, .int .i64 x.t, .int .i64 x.y] 39)) #[.int .i64 (x.a)] 2 (b := wr.heap.size + 1) (by simp)).cell 0
        intro p3 c3 w3 ho3 hb3
        have HNX : Hid (ORel W2 me ys (k + 1) (.slice p3 (m + 1) c3) w3) := ⟨by rw [HSUC.out]; exact ho3, HBR.out.trans ((((Below.refl _ wr).alloc HSZ.out _).alloc (by have := HSZ.out; simp; omega) _).trans hb3)⟩
        clear ho3 hb3
        go_wp2_with fail
        go_roundw
        case rel => exact ⟨k + 1, by omega, by go_num, HNX⟩
        case measure => simp [intOf]; omega
      · have e1 : (x.s == me) = false := by simpa using hs
        have HAM : Hid (amtI me x = -x.a) := if_neg hs
        rw [HAM.out] at HSUC
        clear hs
        go_wp2_with (at_builtin; with_reducible refine stop_appendI (.tmp 32) (.tmp 36) 34 rfl ?_)
        refine wpList_append_row rfl (.tmp 32) (.tmp 36) 34 rfl 2 .i64 8 W2.heap.size eltA (.slice p2 m c2) (.slice (some ⟨wr.heap.size + 1, 0, none⟩) 1 1) zs [-x.a] rfl rfl (HO1.out.alloc (.cells #[.int .i64 (-x.a)] 2)) ⟨some ⟨wr.heap.size + 1, 0, none⟩, 1, rfl, Nat.le_refl _, .inr ⟨wr.heap.size + 1, 0, rfl, fun i hi => ?_⟩⟩ (by have := HM.out; simp; omega) (by have := HM.out; simp; omega) (by have := HSZ.out; simp at this ⊢; omega) (zs ++ [-x.a]) (m + 1) rfl (by rw [List.length_append, HM.out]; rfl) ?_
        · obtain rfl : i = 0 := by simp at hi; omega
          exact (Blk.new' (wr.alloc (.cells #[.int .i64 x.s, .int .i64 x.n, .int .i64 x.b, .int .i64 x.c, .int .i64 x.a, .int .i64 x.r, .int .i64 x.t, .int .i64 x.y] 39)) #[.int .i64 (-x.a)] 2 (b := wr.heap.size + 1) (by simp)).cell 0
        intro p3 c3 w3 ho3 hb3
        have HNX : Hid (ORel W2 me ys (k + 1) (.slice p3 (m + 1) c3) w3) := ⟨by rw [HSUC.out]; exact ho3, HBR.out.trans ((((Below.refl _ wr).alloc HSZ.out _).alloc (by have := HSZ.out; simp; omega) _).trans hb3)⟩
        clear ho3 hb3
        go_wp2_with fail
        go_roundw
        case rel => exact ⟨k + 1, by omega, by go_num, HNX⟩
        case measure => simp [intOf]; omega
    · have hle : (n : Int) ≤ (k : Int) := by omega
      have hkn : k = ys.length := by rw [HL.out]; omega
      have hK := HK.out
      rw [hkn] at hK
      unfold ORel at hK
      rw [List.take_length] at hK
      have HSM := Lib.hid (HSU.out _ _ hK.1.row)
      have HW := Lib.hid (HB2.out.trans (hK.2.mono HB2.out.size))
      clear HK hK hkn
      go_wp2_with fail
      refine HSM.out.mono ?_
      rintro y w3 ⟨rfl, rfl⟩
      rw [HS.out, HE.out]
      go_wp2_with fail
      go_ret2
      exact ⟨rfl, HW.out⟩
end Go.Proofs.Ytillckkohdjkbaa
