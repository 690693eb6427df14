/- MatchFar: its walk. -/
import Derived.Test.YtmfodfimglllkaaMatchDo
namespace Go.Proofs.Ytmfodfimglllkaa
open Go.RowKit
set_option linter.unusedSimpArgs false
def farD (far want : Int) : Dsk := ⟨1, far, [], [⟨0, 3, want⟩]⟩
def farX (nr : Bool) (hv : Int) : Itm := ⟨0, 3, 1, 0, hv, 0, if nr then 3 else 2, 0⟩
def farK (nr : Bool) : Int := if nr then 7 else 8
def farO (d : Dsk) (nr : Bool) (hv : Int) : Dsk := ⟨1, d.far, [farX nr hv], d.os⟩
theorem far_order {far want : Int} (h : 1 ≤ want ∧ want ≤ 1125899906842624) : doM (dsk0 1 far) ⟨2, 0, 3, 0, 0, 0, 0, want, false, [], []⟩ (-1) = (farD far want, [], 0) := by
  unfold doM clientM
  dsimp only
  rw [if_pos rfl, if_neg (by decide), if_pos rfl]
  unfold Dsk.exp expO
  rw [if_pos ⟨show buysOk 1 0 3 by decide, h⟩]
  rfl
theorem far_prop {d : Dsk} {hv : Int} (hm : d.me = 1) (hx : d.xs = []) (h : 1 ≤ hv ∧ hv ≤ 1125899906842624) : doM d ⟨6, 0, 3, 1, 0, 0, 0, hv, false, [], []⟩ 0 = (farO d (expectsB d ⟨0, 3, 1, 0, hv, 0, 1, 0⟩) hv, [(0, aboutM (farK (expectsB d ⟨0, 3, 1, 0, hv, 0, 1, 0⟩)) (farX (expectsB d ⟨0, 3, 1, 0, hv, 0, 1, 0⟩) hv))], 0) := by
  have hc : chkI ⟨0, 3, 1, 0, hv, 0, 1, 0⟩ = 0 := ok_chk (by unfold partsOk; dsimp only; omega) (by unfold numsOk; dsimp only; omega) (by unfold cycBad; dsimp only; omega)
  obtain ⟨me, far, xs, os⟩ := d
  dsimp only at hm hx
  subst hm hx
  unfold doM nodeM
  dsimp only
  rw [if_neg (by decide), if_pos rfl]
  have hf : followsB ⟨1, far, [], os⟩ ⟨0, 3, 1, 0, hv, 0, 1, 0⟩ = true := rfl
  have hp : proI ⟨1, far, [], os⟩ ⟨6, 0, 3, 1, 0, 0, 0, hv, false, [], []⟩ 0 = (farX (expectsB ⟨1, far, [], os⟩ ⟨0, 3, 1, 0, hv, 0, 1, 0⟩) hv, 0) := by
    unfold proI
    rw [if_neg (by show ¬ chkI ⟨0, 3, 1, 0, hv, 0, 1, 0⟩ ≠ 0; rw [hc]; decide), if_neg (by rintro (h | h); exact h rfl; exact h rfl)]
    rw [if_neg (by show ¬ followsB ⟨1, far, [], os⟩ ⟨0, 3, 1, 0, hv, 0, 1, 0⟩ = false; rw [hf]; decide)]
    show (if expectsB ⟨1, far, [], os⟩ ⟨0, 3, 1, 0, hv, 0, 1, 0⟩ = true then _ else _) = _
    cases expectsB ⟨1, far, [], os⟩ ⟨0, 3, 1, 0, hv, 0, 1, 0⟩ <;> rfl
  have hk : proK ⟨1, far, [], os⟩ ⟨6, 0, 3, 1, 0, 0, 0, hv, false, [], []⟩ = [farK (expectsB ⟨1, far, [], os⟩ ⟨0, 3, 1, 0, hv, 0, 1, 0⟩)] := by
    unfold proK
    show (if expectsB ⟨1, far, [], os⟩ ⟨0, 3, 1, 0, hv, 0, 1, 0⟩ = true then _ else _) = _
    cases expectsB ⟨1, far, [], os⟩ ⟨0, 3, 1, 0, hv, 0, 1, 0⟩ <;> rfl
  rw [hp, hk]
  rfl
set_option linter.unusedSimpArgs false in
set_option maxHeartbeats 4000000 in
set_option maxRecDepth 100000 in
theorem matchFar_any (far want hvv : Int) (w : World) (hf : Fits far) (hw : -9223372036854775808 ≤ want ∧ want ≤ 9223372036854775807) (hh : -9223372036854775808 ≤ hvv ∧ hvv ≤ 9223372036854775807) : Calls Try.prog 7 #[.int .i64 far, .int .i64 want, .int .i64 hvv] w fun y w' => y = .returned (.bool true) ∧ Below w.heap.size w w' := by
  have HMA := Lib.hid (fun W => matches_any W)
  have HDA := Lib.hid (fun W => desk_any W 1 far (by decide))
  have HFF : Hid (Fits far) := hf
  have HWB : Hid (-9223372036854775808 ≤ want ∧ want ≤ 9223372036854775807) := hw
  have HFB := Lib.hid hf
  unfold Fits at HFB
  by_cases g0 : far < 0
  · clear hf hw hh
    go_enter Try.func7, Try.ntmps7
    go_wp2_with fail
    refine (HMA.out _).mono ?_
    rintro y w0 ⟨rfl, hb⟩
    go_wp2_with fail
    go_ret
    exact ⟨rfl, hb⟩
  by_cases g1 : want < 0
  · clear hf hw hh
    go_enter Try.func7, Try.ntmps7
    go_wp2_with fail
    refine (HMA.out _).mono ?_
    rintro y w0 ⟨rfl, hb⟩
    go_wp2_with fail
    go_ret
    exact ⟨rfl, hb⟩
  by_cases g2 : 1125899906842624 < want
  · clear hf hw hh
    go_enter Try.func7, Try.ntmps7
    go_wp2_with fail
    refine (HMA.out _).mono ?_
    rintro y w0 ⟨rfl, hb⟩
    go_wp2_with fail
    go_ret
    exact ⟨rfl, hb⟩
  by_cases g3 : hvv < 1
  · clear hf hw hh
    go_enter Try.func7, Try.ntmps7
    go_wp2_with fail
    refine (HMA.out _).mono ?_
    rintro y w0 ⟨rfl, hb⟩
    go_wp2_with fail
    go_ret
    exact ⟨rfl, hb⟩
  by_cases g4 : 1125899906842624 < hvv
  · clear hf hw hh
    go_enter Try.func7, Try.ntmps7
    go_wp2_with fail
    refine (HMA.out _).mono ?_
    rintro y w0 ⟨rfl, hb⟩
    go_wp2_with fail
    go_ret
    exact ⟨rfl, hb⟩
  have HHV : Hid (1 ≤ hvv ∧ hvv ≤ 1125899906842624) := ⟨by omega, by omega⟩
  have HFB2 : Hid (0 ≤ far) := by show _ ≤ _; omega
  have HWB2 : Hid (0 ≤ want ∧ want ≤ 1125899906842624) := ⟨by omega, by omega⟩
  by_cases hw0 : 0 < want
  · have HW : Hid (0 < want ∧ want ≤ 1125899906842624) := ⟨hw0, by omega⟩
    clear hf hw hh hw0 HWB
    have HWB := HWB2
    go_enter Try.func7, Try.ntmps7
    go_wp2_with fail
    refine (HMA.out _).mono ?_
    rintro y w0 ⟨rfl, hb⟩
    have HBM := Lib.hid hb
    clear hb
    go_wp2_with fail
    refine (HDA.out _).mono ?_
    rintro y w1 ⟨rfl, hb⟩
    have HB0 := Lib.hid (HBM.out.trans (hb.mono HBM.out.size))
    have HZ0 : Hid (w.heap.size ≤ w1.heap.size) := Lib.hid HB0.out.size
    clear hb HBM HDA HMA
    have n0 : Hid (w.heap.size ≤ w1.heap.size) := HZ0
    have Hd1 := Lib.hid (Blk.new w1 #[.int .i64 1, .slice none 0 0, .slice none 0 0, .int .i64 far] 29)
    have HB1 := Lib.hid (HB0.out.alloc HB0.out.size (.cells #[.int .i64 1, .slice none 0 0, .slice none 0 0, .int .i64 far] 29))
    have HZ1 : Hid (w.heap.size ≤ (w1.alloc (.cells #[.int .i64 1, .slice none 0 0, .slice none 0 0, .int .i64 far] 29)).heap.size) := Lib.hid (Nat.le_trans HZ0.out (oneB w1 (.cells #[.int .i64 1, .slice none 0 0, .slice none 0 0, .int .i64 far] 29)).size)
    clear HB0 HZ0
    go_upto_region 6 with fail
    generalize (w1.alloc (.cells #[.int .i64 1, .slice none 0 0, .slice none 0 0, .int .i64 far] 29)) = wA at *
    generalize hggd : w1.heap.size = gd at *
    have n1 : Hid (gd < wA.heap.size) := Lib.hid Hd1.out.lt
    have Hd2 := Lib.hid (Hd1.out.alloc (.cells #[.int .i64 0, .int .i64 3] 36))
    have Hi2 := Lib.hid (Blk.new wA #[.int .i64 0, .int .i64 3] 36)
    have HB2 := Lib.hid (HB1.out.alloc HB1.out.size (.cells #[.int .i64 0, .int .i64 3] 36))
    have HZ2 : Hid (w.heap.size ≤ (wA.alloc (.cells #[.int .i64 0, .int .i64 3] 36)).heap.size) := Lib.hid (Nat.le_trans HZ1.out (oneB wA (.cells #[.int .i64 0, .int .i64 3] 36)).size)
    clear Hd1 HB1 HZ1
    go_upto_region 7 with fail
    generalize (wA.alloc (.cells #[.int .i64 0, .int .i64 3] 36)) = wI at *
    generalize hggi : wA.heap.size = gi at *
    obtain ⟨B, hB⟩ : ∃ B, B = wI.heap.size := ⟨_, rfl⟩
    have n3 : gi < B := by rw [hB]; exact Hi2.out.lt
    have NG : Hid (w.heap.size ≤ gd ∧ gd < gi ∧ gi < B) := ⟨n0.out, n1.out, n3⟩
    clear HZ2
    have HZ2 : Hid (B ≤ wI.heap.size) := Lib.hid (Nat.le_of_eq hB)
    clear hB n0 n1 n3
    have Kd2 := Lib.hid (dkR0 (fun b => B ≤ b) wI 1 far (by decide) HFF.out)
    have n4 : (0 : Int) < want := HW.out.1
    go_upto_region 8 with fail
    clear n4
    have HG := Lib.hid (Kd2.out.do_ (by show (0 : Nat) < 1024; omega) (by show (0 : Nat) < 1024; omega) (⟨2, 0, 3, 0, 0, 0, 0, want, false, [], []⟩) (.slice none 0 0) (.slice none 0 0) (-1) [] 0 (far_order (by have := HW.out; omega)))
    unfold dcells Msg.v at HG
    have a0 : wI.cell? ⟨gd, 0, none⟩ = some (.int .i64 1) := Hd2.out.cell 0
    have a1 : wI.cell? ⟨gd, 1, none⟩ = some (.slice none 0 0) := Hd2.out.cell 1
    have a2 : wI.cell? ⟨gd, 2, none⟩ = some (.slice none 0 0) := Hd2.out.cell 2
    have a3 : wI.cell? ⟨gd, 3, none⟩ = some (.int .i64 far) := Hd2.out.cell 3
    have i0 : wI.cell? ⟨gi, 0, none⟩ = some (.int .i64 0) := Hi2.out.cell 0
    have i1 : wI.cell? ⟨gi, 1, none⟩ = some (.int .i64 3) := Hi2.out.cell 1
    go_wp2_with fail
    clear a0 a1 a2 a3 i0 i1
    refine HG.out.mono ?_
    rintro y w1 ⟨hb, p1, c1, q1, e1, vs1, rfl, hk, hown⟩
    clear HG
    have hle : B ≤ wI.heap.size := HZ2.out
    have hk2 := hk.imp (Q := fun b => B ≤ b) (fun b hb => hb.elim id (fun h => Nat.le_trans hle h))
    have ho2 := hown.less hle
    clear hk hown hle
    have Hd3 := Lib.hid (Hd2.out.below hb Hd2.out.lt)
    have Hi3 := Lib.hid (Hi2.out.below hb Hi2.out.lt)
    have HB3 := Lib.hid (HB2.out.trans (hb.mono HB2.out.size))
    have HZ3 : Hid (B ≤ w1.heap.size) := Lib.hid (Nat.le_trans HZ2.out hb.size)
    clear Hd2 Hi2 HB2 HZ2
    have Kd3 := Lib.hid hk2
    clear hb hk2 ho2
    go_wp2_with (with_reducible refine stop_storeT 29 (.tmp 7) (.tmp 50) rfl ?_)
    have HTH : Hid (w1.there gd 0 4) := Hd3.out.thereAt
    have hch : Hid (Chg gd w1 (w1.setCells gd 0 (#[.int .i64 (farD far want).me, .slice p1 (farD far want).xs.length c1, .slice q1 (farD far want).os.length e1, .int .i64 (farD far want).far] : Array Value).toList)) := Lib.hid (chg_putL _ _ _ _ _ (Chg.refl _ w1))
    have Hd4 : Hid (Blk (w1.setCells gd 0 (#[.int .i64 (farD far want).me, .slice p1 (farD far want).xs.length c1, .slice q1 (farD far want).os.length e1, .int .i64 (farD far want).far] : Array Value).toList) gd #[.int .i64 (farD far want).me, .slice p1 (farD far want).xs.length c1, .slice q1 (farD far want).os.length e1, .int .i64 (farD far want).far] 29) := Lib.hid (blk_put_all Hd3.out _ rfl)
    have HB4 : Hid (Below w.heap.size w (w1.setCells gd 0 (#[.int .i64 (farD far want).me, .slice p1 (farD far want).xs.length c1, .slice q1 (farD far want).os.length e1, .int .i64 (farD far want).far] : Array Value).toList)) := Lib.hid (below_put (by have := NG.out; omega) _ _ _ _ HB3.out)
    have HZ4 : Hid (B ≤ (w1.setCells gd 0 (#[.int .i64 (farD far want).me, .slice p1 (farD far want).xs.length c1, .slice q1 (farD far want).os.length e1, .int .i64 (farD far want).far] : Array Value).toList).heap.size) := Lib.hid (Nat.le_trans HZ3.out hch.out.size)
    have Hi4 := Lib.hid (Hi3.out.chg hch.out (by have := NG.out; omega))
    have Kd4 := Lib.hid (Kd3.out.keepP (KeepP.of_chg hch.out (by have := NG.out; show ¬ _ ≤ _; omega)))
    clear hch Hd3 Hi3 Kd3 HB3 HZ3
    refine wpList_store_mid rfl 29 (.tmp 7) (.tmp 50) rfl gd 0 #[.int .i64 (farD far want).me, .slice p1 (farD far want).xs.length c1, .slice q1 (farD far want).os.length e1, .int .i64 (farD far want).far] rfl rfl HTH.out (infoD4 rfl) (all_oneCell_toArray (by intro u hu; simp at hu; rcases hu with rfl | rfl | rfl | rfl <;> rfl)) ?_
    generalize (w1.setCells gd 0 (#[.int .i64 (farD far want).me, .slice p1 (farD far want).xs.length c1, .slice q1 (farD far want).os.length e1, .int .i64 (farD far want).far] : Array Value).toList) = W1 at *
    clear HTH
    go_upto_region 9 with fail
    have HNR : Hid (expectsB (farD far want) ⟨0, 3, 1, 0, hvv, 0, 1, 0⟩ = nearB want hvv far) := Lib.hid rfl
    have HPR := Lib.hid (far_prop (d := (farD far want)) rfl rfl HHV.out)
    generalize expectsB (farD far want) ⟨0, 3, 1, 0, hvv, 0, 1, 0⟩ = nr at *
    have HG := Lib.hid (Kd4.out.do_ (by show (0 : Nat) < 1024; omega) (by show (1 : Nat) < 1024; omega) (⟨6, 0, 3, 1, 0, 0, 0, hvv, false, [], []⟩) (.slice none 0 0) (.slice none 0 0) (0) [(0, aboutM (farK nr) (farX nr hvv))] 0 HPR.out)
    unfold dcells Msg.v at HG
    have a0 : W1.cell? ⟨gd, 0, none⟩ = some (.int .i64 (farD far want).me) := Hd4.out.cell 0
    have a1 : W1.cell? ⟨gd, 1, none⟩ = some (.slice p1 (farD far want).xs.length c1) := Hd4.out.cell 1
    have a2 : W1.cell? ⟨gd, 2, none⟩ = some (.slice q1 (farD far want).os.length e1) := Hd4.out.cell 2
    have a3 : W1.cell? ⟨gd, 3, none⟩ = some (.int .i64 (farD far want).far) := Hd4.out.cell 3
    have i0 : W1.cell? ⟨gi, 0, none⟩ = some (.int .i64 0) := Hi4.out.cell 0
    have i1 : W1.cell? ⟨gi, 1, none⟩ = some (.int .i64 3) := Hi4.out.cell 1
    go_wp2_with fail
    clear a0 a1 a2 a3 i0 i1
    refine HG.out.mono ?_
    rintro y w2 ⟨hb, p2, c2, q2, e2, vs2, rfl, hk, hown⟩
    clear HG
    have hle : B ≤ W1.heap.size := HZ4.out
    have hk2 := hk.imp (Q := fun b => B ≤ b) (fun b hb => hb.elim id (fun h => Nat.le_trans hle h))
    have ho2 := hown.less hle
    clear hk hown hle
    have Hd5 := Lib.hid (Hd4.out.below hb Hd4.out.lt)
    have Hi5 := Lib.hid (Hi4.out.below hb Hi4.out.lt)
    have HB5 := Lib.hid (HB4.out.trans (hb.mono HB4.out.size))
    have HZ5 : Hid (B ≤ w2.heap.size) := Lib.hid (Nat.le_trans HZ4.out hb.size)
    clear Hd4 Hi4 HB4 HZ4
    have Kd5 := Lib.hid hk2
    have Sx5 := Lib.hid ho2
    clear hb hk2 ho2
    go_wp2_with (with_reducible refine stop_storeT 29 (.tmp 7) (.tmp 59) rfl ?_)
    have HTH : Hid (w2.there gd 0 4) := Hd5.out.thereAt
    have hch : Hid (Chg gd w2 (w2.setCells gd 0 (#[.int .i64 (farO (farD far want) nr hvv).me, .slice p2 (farO (farD far want) nr hvv).xs.length c2, .slice q2 (farO (farD far want) nr hvv).os.length e2, .int .i64 (farO (farD far want) nr hvv).far] : Array Value).toList)) := Lib.hid (chg_putL _ _ _ _ _ (Chg.refl _ w2))
    have Hd6 : Hid (Blk (w2.setCells gd 0 (#[.int .i64 (farO (farD far want) nr hvv).me, .slice p2 (farO (farD far want) nr hvv).xs.length c2, .slice q2 (farO (farD far want) nr hvv).os.length e2, .int .i64 (farO (farD far want) nr hvv).far] : Array Value).toList) gd #[.int .i64 (farO (farD far want) nr hvv).me, .slice p2 (farO (farD far want) nr hvv).xs.length c2, .slice q2 (farO (farD far want) nr hvv).os.length e2, .int .i64 (farO (farD far want) nr hvv).far] 29) := Lib.hid (blk_put_all Hd5.out _ rfl)
    have HB6 : Hid (Below w.heap.size w (w2.setCells gd 0 (#[.int .i64 (farO (farD far want) nr hvv).me, .slice p2 (farO (farD far want) nr hvv).xs.length c2, .slice q2 (farO (farD far want) nr hvv).os.length e2, .int .i64 (farO (farD far want) nr hvv).far] : Array Value).toList)) := Lib.hid (below_put (by have := NG.out; omega) _ _ _ _ HB5.out)
    have HZ6 : Hid (B ≤ (w2.setCells gd 0 (#[.int .i64 (farO (farD far want) nr hvv).me, .slice p2 (farO (farD far want) nr hvv).xs.length c2, .slice q2 (farO (farD far want) nr hvv).os.length e2, .int .i64 (farO (farD far want) nr hvv).far] : Array Value).toList).heap.size) := Lib.hid (Nat.le_trans HZ5.out hch.out.size)
    have Hi6 := Lib.hid (Hi5.out.chg hch.out (by have := NG.out; omega))
    have Kd6 := Lib.hid (Kd5.out.keepP (KeepP.of_chg hch.out (by have := NG.out; show ¬ _ ≤ _; omega)))
    have Sx6 := Lib.hid (Sx5.out.stay (fun b hb => hch.out.2 b (Sx5.out.lt b hb) (by have h1 := Sx5.out.block_ge b hb; have := NG.out; omega)))
    clear hch Hd5 Hi5 Kd5 Sx5 HB5 HZ5
    refine wpList_store_mid rfl 29 (.tmp 7) (.tmp 59) rfl gd 0 #[.int .i64 (farO (farD far want) nr hvv).me, .slice p2 (farO (farD far want) nr hvv).xs.length c2, .slice q2 (farO (farD far want) nr hvv).os.length e2, .int .i64 (farO (farD far want) nr hvv).far] rfl rfl HTH.out (infoD4 rfl) (all_oneCell_toArray (by intro u hu; simp at hu; rcases hu with rfl | rfl | rfl | rfl <;> rfl)) ?_
    generalize (w2.setCells gd 0 (#[.int .i64 (farO (farD far want) nr hvv).me, .slice p2 (farO (farD far want) nr hvv).xs.length c2, .slice q2 (farO (farD far want) nr hvv).os.length e2, .int .i64 (farO (farD far want) nr hvv).far] : Array Value).toList) = W2 at *
    clear HTH
    go_upto_region 10 with fail
    have HG := Lib.hid (dget_any W2 (farO (farD far want) nr hvv).me p2 q2 (farO (farD far want) nr hvv).xs.length c2 (farO (farD far want) nr hvv).os.length e2 (0) (3) (farO (farD far want) nr hvv).xs Kd6.out.row.items rfl Kd6.out.row.sx (by have := Kd6.out.row.nx; omega))
    rw [show findX (farO (farD far want) nr hvv).xs 0 3 = some (farX nr hvv) from rfl] at HG
    simp only [Option.getD_some, Option.isSome_some] at HG
    unfold bookV idV Itm.v at HG
    have a0 : W2.cell? ⟨gd, 0, none⟩ = some (.int .i64 (farO (farD far want) nr hvv).me) := Hd6.out.cell 0
    have a1 : W2.cell? ⟨gd, 1, none⟩ = some (.slice p2 (farO (farD far want) nr hvv).xs.length c2) := Hd6.out.cell 1
    have a2 : W2.cell? ⟨gd, 2, none⟩ = some (.slice q2 (farO (farD far want) nr hvv).os.length e2) := Hd6.out.cell 2
    have i0 : W2.cell? ⟨gi, 0, none⟩ = some (.int .i64 0) := Hi6.out.cell 0
    have i1 : W2.cell? ⟨gi, 1, none⟩ = some (.int .i64 3) := Hi6.out.cell 1
    go_wp2_with fail
    clear a0 a1 a2 i0 i1
    refine HG.out.mono ?_
    rintro y w3 ⟨rfl, hb⟩
    clear HG HPR
    have Hd7 := Lib.hid (Hd6.out.below hb Hd6.out.lt)
    have Hi7 := Lib.hid (Hi6.out.below hb Hi6.out.lt)
    have Kd7 := Lib.hid (Kd6.out.kept hb)
    have Sx7 := Lib.hid (Sx6.out.later hb)
    have HB7 := Lib.hid (HB6.out.trans (hb.mono HB6.out.size))
    have HZ7 : Hid (B ≤ w3.heap.size) := Lib.hid (Nat.le_trans HZ6.out hb.size)
    clear Hd6 Hi6 Kd6 Sx6 HB6 HZ6
    clear hb
    have Hd8 := Lib.hid (Hd7.out.alloc (.cells #[.int .i64 (farX nr hvv).s, .int .i64 (farX nr hvv).n, .int .i64 (farX nr hvv).b, .int .i64 (farX nr hvv).c, .int .i64 (farX nr hvv).a, .int .i64 (farX nr hvv).r, .int .i64 (farX nr hvv).t, .int .i64 (farX nr hvv).y] 64))
    have Hi8 := Lib.hid (Hi7.out.alloc (.cells #[.int .i64 (farX nr hvv).s, .int .i64 (farX nr hvv).n, .int .i64 (farX nr hvv).b, .int .i64 (farX nr hvv).c, .int .i64 (farX nr hvv).a, .int .i64 (farX nr hvv).r, .int .i64 (farX nr hvv).t, .int .i64 (farX nr hvv).y] 64))
    have Kd8 := Lib.hid (Kd7.out.kept (oneB w3 (.cells #[.int .i64 (farX nr hvv).s, .int .i64 (farX nr hvv).n, .int .i64 (farX nr hvv).b, .int .i64 (farX nr hvv).c, .int .i64 (farX nr hvv).a, .int .i64 (farX nr hvv).r, .int .i64 (farX nr hvv).t, .int .i64 (farX nr hvv).y] 64)))
    have Sx8 := Lib.hid (Sx7.out.later (oneB w3 (.cells #[.int .i64 (farX nr hvv).s, .int .i64 (farX nr hvv).n, .int .i64 (farX nr hvv).b, .int .i64 (farX nr hvv).c, .int .i64 (farX nr hvv).a, .int .i64 (farX nr hvv).r, .int .i64 (farX nr hvv).t, .int .i64 (farX nr hvv).y] 64)))
    have Hx8 := Lib.hid (Blk.new w3 #[.int .i64 (farX nr hvv).s, .int .i64 (farX nr hvv).n, .int .i64 (farX nr hvv).b, .int .i64 (farX nr hvv).c, .int .i64 (farX nr hvv).a, .int .i64 (farX nr hvv).r, .int .i64 (farX nr hvv).t, .int .i64 (farX nr hvv).y] 64)
    have HB8 := Lib.hid (HB7.out.alloc HB7.out.size (.cells #[.int .i64 (farX nr hvv).s, .int .i64 (farX nr hvv).n, .int .i64 (farX nr hvv).b, .int .i64 (farX nr hvv).c, .int .i64 (farX nr hvv).a, .int .i64 (farX nr hvv).r, .int .i64 (farX nr hvv).t, .int .i64 (farX nr hvv).y] 64))
    have HZ8 : Hid (B ≤ (w3.alloc (.cells #[.int .i64 (farX nr hvv).s, .int .i64 (farX nr hvv).n, .int .i64 (farX nr hvv).b, .int .i64 (farX nr hvv).c, .int .i64 (farX nr hvv).a, .int .i64 (farX nr hvv).r, .int .i64 (farX nr hvv).t, .int .i64 (farX nr hvv).y] 64)).heap.size) := Lib.hid (Nat.le_trans HZ7.out (oneB w3 (.cells #[.int .i64 (farX nr hvv).s, .int .i64 (farX nr hvv).n, .int .i64 (farX nr hvv).b, .int .i64 (farX nr hvv).c, .int .i64 (farX nr hvv).a, .int .i64 (farX nr hvv).r, .int .i64 (farX nr hvv).t, .int .i64 (farX nr hvv).y] 64)).size)
    clear Hd7 Hi7 Kd7 Sx7 HB7 HZ7
    go_upto_region 11 with fail
    generalize (w3.alloc (.cells #[.int .i64 (farX nr hvv).s, .int .i64 (farX nr hvv).n, .int .i64 (farX nr hvv).b, .int .i64 (farX nr hvv).c, .int .i64 (farX nr hvv).a, .int .i64 (farX nr hvv).r, .int .i64 (farX nr hvv).t, .int .i64 (farX nr hvv).y] 64)) = W3 at *
    generalize hggx : w3.heap.size = gx at *
    obtain ⟨bx, ox, kx, hvx, hgex, hltx, hcs0⟩ := own1 Sx8.out
    subst hvx
    have hcsx := Lib.hid hcs0
    clear hcs0 hgex hltx
    have x6 : W3.cell? ⟨gx, 6, none⟩ = some (.int .i64 (farX nr hvv).t) := Hx8.out.cell 6
    have z0 : W3.cell? ⟨bx, ox, none⟩ = some (.int .i64 0) := hcsx.out 0 (by decide)
    have z1 : W3.cell? ⟨bx, ox + 1, none⟩ = some (.int .i64 (farK nr)) := hcsx.out 1 (by decide)
    have HBE := Lib.hid HB8.out
    have hf1 : IntKind.i64.wrap (want - hvv) = want - hvv := IntWalk.i64_in _ (by have := HWB.out; have := HHV.out; omega)
    have n4 : (0 : Int) < want := HW.out.1
    have HN2 := HNR.out
    unfold nearB at HN2
    clear HNR
    by_cases hlo : want - hvv < 0
    · have hf2 : IntKind.i64.wrap (-(want - hvv)) = -(want - hvv) := IntWalk.i64_in _ (by have := HWB.out; have := HHV.out; omega)
      by_cases hnr : -(want - hvv) ≤ far
      · have hq : nr = true := by
          rw [HN2]
          exact decide_eq_true (by have := HFB2.out; omega)
        subst hq
        have xt : (farX true hvv).t = 3 := rfl
        have kk : farK true = 7 := rfl
        rw [xt] at x6
        rw [kk] at z1
        clear HN2 xt kk
        go_wp2_with fail
        go_ret
        exact ⟨rfl, HBE.out⟩
      · have hq : nr = false := by
          rw [HN2]
          exact decide_eq_false (by have := HFB2.out; omega)
        subst hq
        have xt : (farX false hvv).t = 2 := rfl
        have kk : farK false = 8 := rfl
        rw [xt] at x6
        rw [kk] at z1
        clear HN2 xt kk
        go_wp2_with fail
        go_ret
        exact ⟨rfl, HBE.out⟩
    · skip
      by_cases hnr : want - hvv ≤ far
      · have hq : nr = true := by
          rw [HN2]
          exact decide_eq_true (by have := HFB2.out; omega)
        subst hq
        have xt : (farX true hvv).t = 3 := rfl
        have kk : farK true = 7 := rfl
        rw [xt] at x6
        rw [kk] at z1
        clear HN2 xt kk
        go_wp2_with fail
        go_ret
        exact ⟨rfl, HBE.out⟩
      · have hq : nr = false := by
          rw [HN2]
          exact decide_eq_false (by have := HFB2.out; omega)
        subst hq
        have xt : (farX false hvv).t = 2 := rfl
        have kk : farK false = 8 := rfl
        rw [xt] at x6
        rw [kk] at z1
        clear HN2 xt kk
        go_wp2_with fail
        go_ret
        exact ⟨rfl, HBE.out⟩
  · have HW : Hid (want ≤ 0) := by show _ ≤ _; omega
    clear hf hw hh hw0 HWB
    have HWB := HWB2
    go_enter Try.func7, Try.ntmps7
    go_wp2_with fail
    refine (HMA.out _).mono ?_
    rintro y w0 ⟨rfl, hb⟩
    have HBM := Lib.hid hb
    clear hb
    go_wp2_with fail
    refine (HDA.out _).mono ?_
    rintro y w1 ⟨rfl, hb⟩
    have HB0 := Lib.hid (HBM.out.trans (hb.mono HBM.out.size))
    have HZ0 : Hid (w.heap.size ≤ w1.heap.size) := Lib.hid HB0.out.size
    clear hb HBM HDA HMA
    have n0 : Hid (w.heap.size ≤ w1.heap.size) := HZ0
    have Hd1 := Lib.hid (Blk.new w1 #[.int .i64 1, .slice none 0 0, .slice none 0 0, .int .i64 far] 29)
    have HB1 := Lib.hid (HB0.out.alloc HB0.out.size (.cells #[.int .i64 1, .slice none 0 0, .slice none 0 0, .int .i64 far] 29))
    have HZ1 : Hid (w.heap.size ≤ (w1.alloc (.cells #[.int .i64 1, .slice none 0 0, .slice none 0 0, .int .i64 far] 29)).heap.size) := Lib.hid (Nat.le_trans HZ0.out (oneB w1 (.cells #[.int .i64 1, .slice none 0 0, .slice none 0 0, .int .i64 far] 29)).size)
    clear HB0 HZ0
    go_upto_region 6 with fail
    generalize (w1.alloc (.cells #[.int .i64 1, .slice none 0 0, .slice none 0 0, .int .i64 far] 29)) = wA at *
    generalize hggd : w1.heap.size = gd at *
    have n1 : Hid (gd < wA.heap.size) := Lib.hid Hd1.out.lt
    have Hd2 := Lib.hid (Hd1.out.alloc (.cells #[.int .i64 0, .int .i64 3] 36))
    have Hi2 := Lib.hid (Blk.new wA #[.int .i64 0, .int .i64 3] 36)
    have HB2 := Lib.hid (HB1.out.alloc HB1.out.size (.cells #[.int .i64 0, .int .i64 3] 36))
    have HZ2 : Hid (w.heap.size ≤ (wA.alloc (.cells #[.int .i64 0, .int .i64 3] 36)).heap.size) := Lib.hid (Nat.le_trans HZ1.out (oneB wA (.cells #[.int .i64 0, .int .i64 3] 36)).size)
    clear Hd1 HB1 HZ1
    go_upto_region 7 with fail
    generalize (wA.alloc (.cells #[.int .i64 0, .int .i64 3] 36)) = wI at *
    generalize hggi : wA.heap.size = gi at *
    obtain ⟨B, hB⟩ : ∃ B, B = wI.heap.size := ⟨_, rfl⟩
    have n3 : gi < B := by rw [hB]; exact Hi2.out.lt
    have NG : Hid (w.heap.size ≤ gd ∧ gd < gi ∧ gi < B) := ⟨n0.out, n1.out, n3⟩
    clear HZ2
    have HZ2 : Hid (B ≤ wI.heap.size) := Lib.hid (Nat.le_of_eq hB)
    clear hB n0 n1 n3
    have Kd2 := Lib.hid (dkR0 (fun b => B ≤ b) wI 1 far (by decide) HFF.out)
    have n4 : ¬ (0 : Int) < want := by have := HW.out; omega
    go_upto_region 9 with fail
    clear n4
    have HNR : Hid (expectsB (dsk0 1 far) ⟨0, 3, 1, 0, hvv, 0, 1, 0⟩ = false) := Lib.hid rfl
    have HPR := Lib.hid (far_prop (d := (dsk0 1 far)) rfl rfl HHV.out)
    generalize expectsB (dsk0 1 far) ⟨0, 3, 1, 0, hvv, 0, 1, 0⟩ = nr at *
    have HG := Lib.hid (Kd2.out.do_ (by show (0 : Nat) < 1024; omega) (by show (0 : Nat) < 1024; omega) (⟨6, 0, 3, 1, 0, 0, 0, hvv, false, [], []⟩) (.slice none 0 0) (.slice none 0 0) (0) [(0, aboutM (farK nr) (farX nr hvv))] 0 HPR.out)
    unfold dcells Msg.v at HG
    have a0 : wI.cell? ⟨gd, 0, none⟩ = some (.int .i64 1) := Hd2.out.cell 0
    have a1 : wI.cell? ⟨gd, 1, none⟩ = some (.slice none 0 0) := Hd2.out.cell 1
    have a2 : wI.cell? ⟨gd, 2, none⟩ = some (.slice none 0 0) := Hd2.out.cell 2
    have a3 : wI.cell? ⟨gd, 3, none⟩ = some (.int .i64 far) := Hd2.out.cell 3
    have i0 : wI.cell? ⟨gi, 0, none⟩ = some (.int .i64 0) := Hi2.out.cell 0
    have i1 : wI.cell? ⟨gi, 1, none⟩ = some (.int .i64 3) := Hi2.out.cell 1
    go_wp2_with fail
    clear a0 a1 a2 a3 i0 i1
    refine HG.out.mono ?_
    rintro y w2 ⟨hb, p2, c2, q2, e2, vs2, rfl, hk, hown⟩
    clear HG
    have hle : B ≤ wI.heap.size := HZ2.out
    have hk2 := hk.imp (Q := fun b => B ≤ b) (fun b hb => hb.elim id (fun h => Nat.le_trans hle h))
    have ho2 := hown.less hle
    clear hk hown hle
    have Hd3 := Lib.hid (Hd2.out.below hb Hd2.out.lt)
    have Hi3 := Lib.hid (Hi2.out.below hb Hi2.out.lt)
    have HB3 := Lib.hid (HB2.out.trans (hb.mono HB2.out.size))
    have HZ3 : Hid (B ≤ w2.heap.size) := Lib.hid (Nat.le_trans HZ2.out hb.size)
    clear Hd2 Hi2 HB2 HZ2
    have Kd3 := Lib.hid hk2
    have Sx3 := Lib.hid ho2
    clear hb hk2 ho2
    go_wp2_with (with_reducible refine stop_storeT 29 (.tmp 7) (.tmp 59) rfl ?_)
    have HTH : Hid (w2.there gd 0 4) := Hd3.out.thereAt
    have hch : Hid (Chg gd w2 (w2.setCells gd 0 (#[.int .i64 (farO (dsk0 1 far) nr hvv).me, .slice p2 (farO (dsk0 1 far) nr hvv).xs.length c2, .slice q2 (farO (dsk0 1 far) nr hvv).os.length e2, .int .i64 (farO (dsk0 1 far) nr hvv).far] : Array Value).toList)) := Lib.hid (chg_putL _ _ _ _ _ (Chg.refl _ w2))
    have Hd4 : Hid (Blk (w2.setCells gd 0 (#[.int .i64 (farO (dsk0 1 far) nr hvv).me, .slice p2 (farO (dsk0 1 far) nr hvv).xs.length c2, .slice q2 (farO (dsk0 1 far) nr hvv).os.length e2, .int .i64 (farO (dsk0 1 far) nr hvv).far] : Array Value).toList) gd #[.int .i64 (farO (dsk0 1 far) nr hvv).me, .slice p2 (farO (dsk0 1 far) nr hvv).xs.length c2, .slice q2 (farO (dsk0 1 far) nr hvv).os.length e2, .int .i64 (farO (dsk0 1 far) nr hvv).far] 29) := Lib.hid (blk_put_all Hd3.out _ rfl)
    have HB4 : Hid (Below w.heap.size w (w2.setCells gd 0 (#[.int .i64 (farO (dsk0 1 far) nr hvv).me, .slice p2 (farO (dsk0 1 far) nr hvv).xs.length c2, .slice q2 (farO (dsk0 1 far) nr hvv).os.length e2, .int .i64 (farO (dsk0 1 far) nr hvv).far] : Array Value).toList)) := Lib.hid (below_put (by have := NG.out; omega) _ _ _ _ HB3.out)
    have HZ4 : Hid (B ≤ (w2.setCells gd 0 (#[.int .i64 (farO (dsk0 1 far) nr hvv).me, .slice p2 (farO (dsk0 1 far) nr hvv).xs.length c2, .slice q2 (farO (dsk0 1 far) nr hvv).os.length e2, .int .i64 (farO (dsk0 1 far) nr hvv).far] : Array Value).toList).heap.size) := Lib.hid (Nat.le_trans HZ3.out hch.out.size)
    have Hi4 := Lib.hid (Hi3.out.chg hch.out (by have := NG.out; omega))
    have Kd4 := Lib.hid (Kd3.out.keepP (KeepP.of_chg hch.out (by have := NG.out; show ¬ _ ≤ _; omega)))
    have Sx4 := Lib.hid (Sx3.out.stay (fun b hb => hch.out.2 b (Sx3.out.lt b hb) (by have h1 := Sx3.out.block_ge b hb; have := NG.out; omega)))
    clear hch Hd3 Hi3 Kd3 Sx3 HB3 HZ3
    refine wpList_store_mid rfl 29 (.tmp 7) (.tmp 59) rfl gd 0 #[.int .i64 (farO (dsk0 1 far) nr hvv).me, .slice p2 (farO (dsk0 1 far) nr hvv).xs.length c2, .slice q2 (farO (dsk0 1 far) nr hvv).os.length e2, .int .i64 (farO (dsk0 1 far) nr hvv).far] rfl rfl HTH.out (infoD4 rfl) (all_oneCell_toArray (by intro u hu; simp at hu; rcases hu with rfl | rfl | rfl | rfl <;> rfl)) ?_
    generalize (w2.setCells gd 0 (#[.int .i64 (farO (dsk0 1 far) nr hvv).me, .slice p2 (farO (dsk0 1 far) nr hvv).xs.length c2, .slice q2 (farO (dsk0 1 far) nr hvv).os.length e2, .int .i64 (farO (dsk0 1 far) nr hvv).far] : Array Value).toList) = W2 at *
    clear HTH
    go_upto_region 10 with fail
    have HG := Lib.hid (dget_any W2 (farO (dsk0 1 far) nr hvv).me p2 q2 (farO (dsk0 1 far) nr hvv).xs.length c2 (farO (dsk0 1 far) nr hvv).os.length e2 (0) (3) (farO (dsk0 1 far) nr hvv).xs Kd4.out.row.items rfl Kd4.out.row.sx (by have := Kd4.out.row.nx; omega))
    rw [show findX (farO (dsk0 1 far) nr hvv).xs 0 3 = some (farX nr hvv) from rfl] at HG
    simp only [Option.getD_some, Option.isSome_some] at HG
    unfold bookV idV Itm.v at HG
    have a0 : W2.cell? ⟨gd, 0, none⟩ = some (.int .i64 (farO (dsk0 1 far) nr hvv).me) := Hd4.out.cell 0
    have a1 : W2.cell? ⟨gd, 1, none⟩ = some (.slice p2 (farO (dsk0 1 far) nr hvv).xs.length c2) := Hd4.out.cell 1
    have a2 : W2.cell? ⟨gd, 2, none⟩ = some (.slice q2 (farO (dsk0 1 far) nr hvv).os.length e2) := Hd4.out.cell 2
    have i0 : W2.cell? ⟨gi, 0, none⟩ = some (.int .i64 0) := Hi4.out.cell 0
    have i1 : W2.cell? ⟨gi, 1, none⟩ = some (.int .i64 3) := Hi4.out.cell 1
    go_wp2_with fail
    clear a0 a1 a2 i0 i1
    refine HG.out.mono ?_
    rintro y w3 ⟨rfl, hb⟩
    clear HG HPR
    have Hd5 := Lib.hid (Hd4.out.below hb Hd4.out.lt)
    have Hi5 := Lib.hid (Hi4.out.below hb Hi4.out.lt)
    have Kd5 := Lib.hid (Kd4.out.kept hb)
    have Sx5 := Lib.hid (Sx4.out.later hb)
    have HB5 := Lib.hid (HB4.out.trans (hb.mono HB4.out.size))
    have HZ5 : Hid (B ≤ w3.heap.size) := Lib.hid (Nat.le_trans HZ4.out hb.size)
    clear Hd4 Hi4 Kd4 Sx4 HB4 HZ4
    clear hb
    have Hd6 := Lib.hid (Hd5.out.alloc (.cells #[.int .i64 (farX nr hvv).s, .int .i64 (farX nr hvv).n, .int .i64 (farX nr hvv).b, .int .i64 (farX nr hvv).c, .int .i64 (farX nr hvv).a, .int .i64 (farX nr hvv).r, .int .i64 (farX nr hvv).t, .int .i64 (farX nr hvv).y] 64))
    have Hi6 := Lib.hid (Hi5.out.alloc (.cells #[.int .i64 (farX nr hvv).s, .int .i64 (farX nr hvv).n, .int .i64 (farX nr hvv).b, .int .i64 (farX nr hvv).c, .int .i64 (farX nr hvv).a, .int .i64 (farX nr hvv).r, .int .i64 (farX nr hvv).t, .int .i64 (farX nr hvv).y] 64))
    have Kd6 := Lib.hid (Kd5.out.kept (oneB w3 (.cells #[.int .i64 (farX nr hvv).s, .int .i64 (farX nr hvv).n, .int .i64 (farX nr hvv).b, .int .i64 (farX nr hvv).c, .int .i64 (farX nr hvv).a, .int .i64 (farX nr hvv).r, .int .i64 (farX nr hvv).t, .int .i64 (farX nr hvv).y] 64)))
    have Sx6 := Lib.hid (Sx5.out.later (oneB w3 (.cells #[.int .i64 (farX nr hvv).s, .int .i64 (farX nr hvv).n, .int .i64 (farX nr hvv).b, .int .i64 (farX nr hvv).c, .int .i64 (farX nr hvv).a, .int .i64 (farX nr hvv).r, .int .i64 (farX nr hvv).t, .int .i64 (farX nr hvv).y] 64)))
    have Hx6 := Lib.hid (Blk.new w3 #[.int .i64 (farX nr hvv).s, .int .i64 (farX nr hvv).n, .int .i64 (farX nr hvv).b, .int .i64 (farX nr hvv).c, .int .i64 (farX nr hvv).a, .int .i64 (farX nr hvv).r, .int .i64 (farX nr hvv).t, .int .i64 (farX nr hvv).y] 64)
    have HB6 := Lib.hid (HB5.out.alloc HB5.out.size (.cells #[.int .i64 (farX nr hvv).s, .int .i64 (farX nr hvv).n, .int .i64 (farX nr hvv).b, .int .i64 (farX nr hvv).c, .int .i64 (farX nr hvv).a, .int .i64 (farX nr hvv).r, .int .i64 (farX nr hvv).t, .int .i64 (farX nr hvv).y] 64))
    have HZ6 : Hid (B ≤ (w3.alloc (.cells #[.int .i64 (farX nr hvv).s, .int .i64 (farX nr hvv).n, .int .i64 (farX nr hvv).b, .int .i64 (farX nr hvv).c, .int .i64 (farX nr hvv).a, .int .i64 (farX nr hvv).r, .int .i64 (farX nr hvv).t, .int .i64 (farX nr hvv).y] 64)).heap.size) := Lib.hid (Nat.le_trans HZ5.out (oneB w3 (.cells #[.int .i64 (farX nr hvv).s, .int .i64 (farX nr hvv).n, .int .i64 (farX nr hvv).b, .int .i64 (farX nr hvv).c, .int .i64 (farX nr hvv).a, .int .i64 (farX nr hvv).r, .int .i64 (farX nr hvv).t, .int .i64 (farX nr hvv).y] 64)).size)
    clear Hd5 Hi5 Kd5 Sx5 HB5 HZ5
    go_upto_region 11 with fail
    generalize (w3.alloc (.cells #[.int .i64 (farX nr hvv).s, .int .i64 (farX nr hvv).n, .int .i64 (farX nr hvv).b, .int .i64 (farX nr hvv).c, .int .i64 (farX nr hvv).a, .int .i64 (farX nr hvv).r, .int .i64 (farX nr hvv).t, .int .i64 (farX nr hvv).y] 64)) = W3 at *
    generalize hggx : w3.heap.size = gx at *
    obtain ⟨bx, ox, kx, hvx, hgex, hltx, hcs0⟩ := own1 Sx6.out
    subst hvx
    have hcsx := Lib.hid hcs0
    clear hcs0 hgex hltx
    have x6 : W3.cell? ⟨gx, 6, none⟩ = some (.int .i64 (farX nr hvv).t) := Hx6.out.cell 6
    have z0 : W3.cell? ⟨bx, ox, none⟩ = some (.int .i64 0) := hcsx.out 0 (by decide)
    have z1 : W3.cell? ⟨bx, ox + 1, none⟩ = some (.int .i64 (farK nr)) := hcsx.out 1 (by decide)
    have HBE := Lib.hid HB6.out
    have hf1 : IntKind.i64.wrap (want - hvv) = want - hvv := IntWalk.i64_in _ (by have := HWB.out; have := HHV.out; omega)
    have n4 : ¬ (0 : Int) < want := by have := HW.out; omega
    have hq : nr = false := HNR.out
    subst hq
    have xt : (farX false hvv).t = 2 := rfl
    have kk : farK false = 8 := rfl
    rw [xt] at x6
    rw [kk] at z1
    clear HNR xt kk
    have hlo : want - hvv < 0 := by have := HHV.out; omega
    have hf2 : IntKind.i64.wrap (-(want - hvv)) = -(want - hvv) := IntWalk.i64_in _ (by have := HWB.out; have := HHV.out; omega)
    go_wp2_with fail
    go_ret
    exact ⟨rfl, HBE.out⟩
end Go.Proofs.Ytmfodfimglllkaa
