/- DiskPlays: the walk. -/
import Derived.Test.YtgkikjjgbceopaaDiskKeeps
import Derived.Test.YtgkikjjgbceopaaDiskLike
namespace Go.Proofs.Ytgkikjjgbceopaa
open Go.RowKit
theorem new_nr (room : Nat) : (newD room).nr = newD room := rfl
theorem new_fits (room : Nat) : (newD room).Fits := Nat.zero_le _
/-- The document's disk lies in block p, the program's in block g. -/
def Both (W : World) (g p : Nat) (d : DSt) (w : World) : Prop := d.Ok ∧ d.Fits ∧ Dkp (fun b => b = p) w g g d ∧ Blk w p (cellsR d.nr) 58 ∧ Below W.heap.size W w
set_option linter.unusedSimpArgs false in
set_option maxHeartbeats 8000000 in
set_option maxRecDepth 100000 in
theorem dplays_walk (room : Int) (vo : Value) (n : Nat) (f : Nat → OpV) (W : World) (br : -9223372036854775808 ≤ room ∧ room ≤ 9223372036854775807) (ro : OpRow W vo n f) :
    Calls Try.prog 8 #[.int .i64 room, vo] W fun e W' => e = .returned (.bool true) ∧ Below W.heap.size W W' := by
  obtain ⟨po, co, rfl⟩ := ro.shape
  have RO := Lib.hid ro
  clear ro
  by_cases hr : 0 ≤ room ∧ room ≤ 4194304
  · obtain ⟨R, rfl⟩ : ∃ R : Nat, room = R := ⟨room.toNat, by omega⟩
    have hr1 : (R : Int) ≤ 4194304 := hr.2
    have HRO := Lib.hid hr
    clear br hr
    by_cases hn : (n : Int) ≤ 60
    · go_enter Try.func8, Try.ntmps8
      go_wp2_with fail
      refine (keeps_any W).mono ?_
      rintro y w0 ⟨rfl, hb0⟩
      have B0 := Lib.hid hb0
      have HAg := Lib.hid hb0.size
      clear hb0
      go_wp2_with fail
      refine (new_any R w0).mono ?_
      rintro y w1 ⟨hb1, _, hk1⟩
      obtain ⟨rfl, hd1⟩ := hk1 HRO.out
      rw [show (R : Int).toNat = R from Int.toNat_natCast R] at hd1
      have D1 : Hid (Dk w1 w0.heap.size w0.heap.size (newD R)) := hd1
      have B1 := Lib.hid (B0.out.trans (hb1.mono HAg.out))
      clear hb1 hk1 hd1
      generalize w0.heap.size = g at *
      go_wp2_with fail
      have HR0 : Hid (∃ d, Both W g w1.heap.size d (w1.alloc (.cells #[.int .i64 R, .string ⟨#[]⟩, .string ⟨#[]⟩, .bool false, .bool false, .int .i64 (-1)] 58))) :=
        ⟨newD R, new_ok (by omega), new_fits R, D1.out.dkp.later (oneB w1 _) (fun b hb => .inr (by omega)) (fun b hb => by rw [hb]; simp), Blk.new w1 _ _, B1.out.alloc B1.out.size _⟩
      have HPW : Hid (W.heap.size ≤ w1.heap.size) := B1.out.size
      generalize w1.heap.size = p at *
      go_loopw [38] (fun i wr => ∃ k : Nat, k ≤ n ∧ i = .int .i64 k ∧ Hid (∃ d, Both W g p d wr)) (fun i _ => n - (intOf i).toNat)
      case atStart => exact ⟨0, by omega, rfl, HR0⟩
      case round =>
        obtain ⟨k, hk, rfl, HK⟩ := hrel
        obtain ⟨d, hok, hft, hdk, hbp, hbw⟩ := HK.out
        have HB := Lib.hid hbw
        clear HK
        by_cases hlt : k < n
        · obtain ⟨b, o, q, e, rfl, hbl, hfit, d0, d1, d2, d3, d4⟩ := RO.out.at_ k hlt
          have c0 := (HB.out.cell (p := ⟨b, o + k * 4, none⟩) hbl).trans d0
          have c1 := (HB.out.cell (p := ⟨b, o + k * 4 + 1, none⟩) hbl).trans d1
          have c2 := (HB.out.cell (p := ⟨b, o + k * 4 + 2, none⟩) hbl).trans d2
          have c3 := (HB.out.cell (p := ⟨b, o + k * 4 + 3, none⟩) hbl).trans d4
          have HDT := Lib.hid d3
          have HFIT := Lib.hid hfit
          unfold OpV.Fit at HFIT
          generalize (f k).kind = kd at *
          generalize (f k).n = nn at *
          generalize (f k).data = D at *
          generalize (f k).turn = tt at *
          clear d0 d1 d2 d3 d4 hfit hbl
          have HBA := Lib.hid (fun (x : Obj) => HB.out.alloc HB.out.size x)
          by_cases hDl : D.length ≤ 1000
          · have hDl2 : (D.length : Int) ≤ 1000 := by omega
            have HDO := Lib.hid (fun (x : Obj) => do_any (fun b => b = p) W (wr.alloc x) g g d d.nr kd nn tt D q e (hdk.kept (oneB wr x)) hft (nr_ok hok) HFIT.out.2.1 HFIT.out.2.2.2 HFIT.out.2.2.1 hDl HDT.out (HBA.out x) HAg.out)
            have HNX := Lib.hid (opD_ok hok hft (kd := kd) (D := D) HFIT.out.2.1 HFIT.out.2.2.2 HFIT.out.2.2.1)
            unfold DoPost at HDO
            rw [(op_nr d kd nn D tt).1, (op_nr d kd nn D tt).2, decide_eq_true (rfl : opE d kd D.length = opE d kd D.length)] at HDO
            generalize opD d kd nn D tt = d' at HDO HNX
            have HLK := Lib.hid (fun (w' : World) (h' : Dk w' g g d') => like_any w' g g d' h')
            have HP := Lib.hid hbp
            have HPL := Lib.hid hbp.lt
            unfold cellsR at hbp
            have p0 : wr.cell? ⟨p, 0, none⟩ = some (.int .i64 d.nr.room) := hbp.cell 0
            have p1 : wr.cell? ⟨p, 1, none⟩ = some (.string (strOfNums d.nr.S)) := hbp.cell 1
            have p2 : wr.cell? ⟨p, 2, none⟩ = some (.string (strOfNums d.nr.R)) := hbp.cell 2
            have p3 : wr.cell? ⟨p, 3, none⟩ = some (.bool d.nr.nw) := hbp.cell 3
            have p4 : wr.cell? ⟨p, 4, none⟩ = some (.bool d.nr.dn) := hbp.cell 4
            have p5 : wr.cell? ⟨p, 5, none⟩ = some (.int .i64 d.nr.left) := hbp.cell 5
            have hpl := hbp.lt
            clear hbp hdk hok hft hbw
            unfold refV cellsR at HDO HLK
            go_wp2_with fail
            refine (HDO.out _).mono ?_
            rintro y w4 ⟨rfl, hd4, hb4⟩
            have hp4 := (HP.out.alloc (.cells #[.int .i64 kd, .int .i64 nn, .slice q D.length e, .int .u8 tt] 61)).belowP hb4 rfl
            unfold cellsR at hp4
            have HP4 := Lib.hid hp4
            have HD4 := Lib.hid hd4
            have HB4 := Lib.hid ((HBA.out (.cells #[.int .i64 kd, .int .i64 nn, .slice q D.length e, .int .u8 tt] 61)).trans (hb4.1.mono HAg.out))
            clear p0 p1 p2 p3 p4 p5 hpl c0 c1 c2 c3
            have p0 : w4.cell? ⟨p, 0, none⟩ = some (.int .i64 d.nr.room) := hp4.cell 0
            have fp0 := hp4.free 0
            have p1 : w4.cell? ⟨p, 1, none⟩ = some (.string (strOfNums d.nr.S)) := hp4.cell 1
            have fp1 := hp4.free 1
            have p2 : w4.cell? ⟨p, 2, none⟩ = some (.string (strOfNums d.nr.R)) := hp4.cell 2
            have fp2 := hp4.free 2
            have p3 : w4.cell? ⟨p, 3, none⟩ = some (.bool d.nr.nw) := hp4.cell 3
            have fp3 := hp4.free 3
            have p4 : w4.cell? ⟨p, 4, none⟩ = some (.bool d.nr.dn) := hp4.cell 4
            have fp4 := hp4.free 4
            have p5 : w4.cell? ⟨p, 5, none⟩ = some (.int .i64 d.nr.left) := hp4.cell 5
            have fp5 := hp4.free 5
            have hpl := hp4.lt
            clear hd4 hb4 hp4
            go_wp2_with fail
            have hst : Blk (((((((w4.setCell ⟨p, 0, none⟩ (.int .i64 d'.nr.room)).setCell ⟨p, 1, none⟩ (.string (strOfNums d'.nr.S))).setCell ⟨p, 2, none⟩ (.string (strOfNums d'.nr.R))).setCell ⟨p, 3, none⟩ (.bool d'.nr.nw)).setCell ⟨p, 4, none⟩ (.bool d'.nr.dn)).setCell ⟨p, 5, none⟩ (.int .i64 d'.nr.left)).alloc (.cells #[.int .i64 d'.nr.room, .string (strOfNums d'.nr.S), .string (strOfNums d'.nr.R), .bool d'.nr.nw, .bool d'.nr.dn, .int .i64 d'.nr.left] 58)) p #[.int .i64 d'.nr.room, .string (strOfNums d'.nr.S), .string (strOfNums d'.nr.R), .bool d'.nr.nw, .bool d'.nr.dn, .int .i64 d'.nr.left] 58 := (((((((HP4.out.set 0 (.int .i64 d'.nr.room)).set 1 (.string (strOfNums d'.nr.S))).set 2 (.string (strOfNums d'.nr.R))).set 3 (.bool d'.nr.nw)).set 4 (.bool d'.nr.dn)).set 5 (.int .i64 d'.nr.left)).alloc _)
            have hch : Chg p w4 (((((((w4.setCell ⟨p, 0, none⟩ (.int .i64 d'.nr.room)).setCell ⟨p, 1, none⟩ (.string (strOfNums d'.nr.S))).setCell ⟨p, 2, none⟩ (.string (strOfNums d'.nr.R))).setCell ⟨p, 3, none⟩ (.bool d'.nr.nw)).setCell ⟨p, 4, none⟩ (.bool d'.nr.dn)).setCell ⟨p, 5, none⟩ (.int .i64 d'.nr.left)).alloc (.cells #[.int .i64 d'.nr.room, .string (strOfNums d'.nr.S), .string (strOfNums d'.nr.R), .bool d'.nr.nw, .bool d'.nr.dn, .int .i64 d'.nr.left] 58)) := ((((((((Chg.refl p w4).set 0 _).set 1 _).set 2 _).set 3 _).set 4 _).set 5 _).alloc _)
            have hdk5 : Dkp (fun b => b = p) (((((((w4.setCell ⟨p, 0, none⟩ (.int .i64 d'.nr.room)).setCell ⟨p, 1, none⟩ (.string (strOfNums d'.nr.S))).setCell ⟨p, 2, none⟩ (.string (strOfNums d'.nr.R))).setCell ⟨p, 3, none⟩ (.bool d'.nr.nw)).setCell ⟨p, 4, none⟩ (.bool d'.nr.dn)).setCell ⟨p, 5, none⟩ (.int .i64 d'.nr.left)).alloc (.cells #[.int .i64 d'.nr.room, .string (strOfNums d'.nr.S), .string (strOfNums d'.nr.R), .bool d'.nr.nw, .bool d'.nr.dn, .int .i64 d'.nr.left] 58)) g g d' := HD4.out.chg rfl hch
            have hb5 : Below W.heap.size W (((((((w4.setCell ⟨p, 0, none⟩ (.int .i64 d'.nr.room)).setCell ⟨p, 1, none⟩ (.string (strOfNums d'.nr.S))).setCell ⟨p, 2, none⟩ (.string (strOfNums d'.nr.R))).setCell ⟨p, 3, none⟩ (.bool d'.nr.nw)).setCell ⟨p, 4, none⟩ (.bool d'.nr.dn)).setCell ⟨p, 5, none⟩ (.int .i64 d'.nr.left)).alloc (.cells #[.int .i64 d'.nr.room, .string (strOfNums d'.nr.S), .string (strOfNums d'.nr.R), .bool d'.nr.nw, .bool d'.nr.dn, .int .i64 d'.nr.left] 58)) := HB4.out.trans (hch.below HPW.out HB4.out.size)
            have HST := Lib.hid hst
            have HDK5 := Lib.hid hdk5
            have HB5 := Lib.hid hb5
            clear hst hch hdk5 hb5
            refine (HLK.out _ HDK5.out.dk).mono ?_
            rintro y w9 ⟨rfl, hb9⟩
            have HN : Hid (∃ d, Both W g p d w9) := ⟨d', HNX.out.1, HNX.out.2, HDK5.out.kept hb9, HST.out.below hb9 HST.out.lt, HB5.out.trans (hb9.mono HB5.out.size)⟩
            clear hb9
            go_wp2_with fail
            go_roundw
            case rel => exact ⟨k + 1, by omega, by go_num, HN⟩
            case measure => simp [intOf]; omega
          · have hDl2 : (1000 : Int) < D.length := by omega
            go_wp2_with fail
            go_ret
            exact ⟨rfl, HBA.out _⟩
        · have hkn : (n : Int) ≤ (k : Int) := by omega
          go_wp2_with fail
          go_ret
          exact ⟨rfl, HB.out⟩
    · have hn2 : (60 : Int) < n := by omega
      go_enter Try.func8, Try.ntmps8
      go_wp2_with fail
      refine (keeps_any W).mono ?_
      rintro y w0 ⟨rfl, hb0⟩
      have HAg := Lib.hid hb0.size
      go_wp2_with fail
      refine (new_any R w0).mono ?_
      rintro y w1 ⟨hb1, _, hk1⟩
      obtain ⟨rfl, hd1⟩ := hk1 HRO.out
      have B1 := Lib.hid (hb0.trans (hb1.mono HAg.out))
      clear hb1 hk1 hd1 hb0
      go_wp2_with fail
      go_ret
      exact ⟨rfl, B1.out⟩
  · have HNR := Lib.hid hr
    have hr2 : room < 0 ∨ 0 ≤ room ∧ 4194304 < room := by omega
    rcases hr2 with hr2 | ⟨hr2, hr3⟩
    all_goals
      go_enter Try.func8, Try.ntmps8
      go_wp2_with fail
      refine (keeps_any W).mono ?_
      rintro y w0 ⟨rfl, hb0⟩
      have HAg := Lib.hid hb0.size
      go_wp2_with fail
      refine (new_any room w0).mono ?_
      rintro y w1 ⟨hb1, hk1, _⟩
      obtain rfl := hk1 HNR.out
      have B1 := Lib.hid (hb0.trans (hb1.mono HAg.out))
      clear hb1 hk1 hb0
      go_wp2_with fail
      go_ret
      exact ⟨rfl, B1.out⟩
end Go.Proofs.Ytgkikjjgbceopaa
