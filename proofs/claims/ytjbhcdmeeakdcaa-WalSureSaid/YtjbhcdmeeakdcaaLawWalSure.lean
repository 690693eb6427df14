/- WalSure: the walk. -/
import Derived.Test.YtjbhcdmeeakdcaaSurePure
import Derived.Deep.RegionHeld3
import Derived.Deep.CutRange
import Derived.Deep.CutBlock
namespace Go.Proofs.Ytjbhcdmeeakdcaa
open Go.RowKit
/-- The loop's head. -/
def SRel (w : World) (B gl rm k : Nat) (v u : Value) (wr : World) : Prop := ∃ A C d n, Inv7 rm k d n A C ∧ WS2 none_ w B gl d n v A u C wr
/-- Behind the operation. -/
def MRel (w : World) (B gl rm k : Nat) (v u : Value) (wr : World) : Prop := ∃ A C d n, Mid7 rm (k + 1) d n A C ∧ WS2 none_ w B gl d n v A u C wr
set_option linter.unusedSimpArgs false in
set_option maxHeartbeats 32000000 in
set_option maxRecDepth 100000 in
theorem wsure_walk (v : Value) (n : Nat) (f : Nat → OpW) (room : Int) (w : World) (hr : OpRowW w v n f) (bf : -9223372036854775808 ≤ room ∧ room ≤ 9223372036854775807) : Calls Try.prog 3 #[v, .int .i64 room] w fun e w' => e = .returned (.bool true) ∧ Below w.heap.size w w' := by
  have HL := Lib.hid (fun w => logs_any w)
  obtain ⟨pv, cv, rfl⟩ := hr.shape
  have HR := Lib.hid hr
  have HBF := Lib.hid bf
  clear hr bf
  have HFA := Lib.hid (fun (w1 : World) (hb : Below w.heap.size w w1) => fits_any w1 _ n f (HR.out.kept hb))
  by_cases hf : fitsB n f = true
  rotate_left
  · have hf' : fitsB n f = false := by simpa using hf
    rw [hf'] at HFA
    clear hf hf'
    go_enter Try.func3, Try.ntmps3
    go_wp2_with fail
    refine (HL.out _).mono ?_
    rintro y w1 ⟨rfl, hb1⟩
    have B1 := Lib.hid hb1
    clear hb1
    go_wp2_with fail
    refine (HFA.out _ B1.out).mono ?_
    rintro y w2 ⟨rfl, hb2⟩
    have B2 := Lib.hid (B1.out.trans (hb2.mono B1.out.size))
    clear hb2
    go_wp2_with fail
    go_ret
    exact ⟨rfl, B2.out⟩
  rw [hf] at HFA
  have HFT := Lib.hid (fits_each hf)
  have hn40 : n ≤ 40 := HFT.out.1
  clear hf
  by_cases hneg : room < 0
  · go_enter Try.func3, Try.ntmps3
    go_wp2_with fail
    refine (HL.out _).mono ?_
    rintro y w1 ⟨rfl, hb1⟩
    have B1 := Lib.hid hb1
    clear hb1
    go_wp2_with fail
    refine (HFA.out _ B1.out).mono ?_
    rintro y w2 ⟨rfl, hb2⟩
    have B2 := Lib.hid (B1.out.trans (hb2.mono B1.out.size))
    clear hb2
    go_wp2_with fail
    go_ret
    exact ⟨rfl, B2.out⟩
  by_cases hbig : 1048576 < room
  · go_enter Try.func3, Try.ntmps3
    go_wp2_with fail
    refine (HL.out _).mono ?_
    rintro y w1 ⟨rfl, hb1⟩
    have B1 := Lib.hid hb1
    clear hb1
    go_wp2_with fail
    refine (HFA.out _ B1.out).mono ?_
    rintro y w2 ⟨rfl, hb2⟩
    have B2 := Lib.hid (B1.out.trans (hb2.mono B1.out.size))
    clear hb2
    go_wp2_with fail
    go_ret
    exact ⟨rfl, B2.out⟩
  obtain ⟨rm, rfl⟩ : ∃ rm : Nat, room = rm := ⟨room.toNat, by omega⟩
  have hrm : rm ≤ 1048576 := by omega
  have hneg' : ¬ (rm : Int) < 0 := hneg
  have hbig' : ¬ (1048576 : Int) < (rm : Int) := hbig
  clear hneg hbig
  go_enter Try.func3, Try.ntmps3
  go_wp2_with fail
  refine (HL.out _).mono ?_
  rintro y w1 ⟨rfl, hb1⟩
  have B1 := Lib.hid hb1
  clear hb1 HL
  go_wp2_with fail
  refine (HFA.out _ B1.out).mono ?_
  rintro y w2 ⟨rfl, hb2⟩
  have B2 := Lib.hid (B1.out.trans (hb2.mono B1.out.size))
  clear hb2 HFA
  go_wp2_with fail
  refine (new_any rm w2).mono ?_
  rintro y w3 ⟨hb3, _, hk3⟩
  obtain ⟨rfl, hd3⟩ := hk3 (by omega)
  rw [show (rm : Int).toNat = rm from Int.toNat_natCast rm] at hd3
  have D3 : Hid (Dkp none_ w3 w2.heap.size w2.heap.size (newD rm)) := hd3.dkp
  have C3 := Lib.hid hb3
  clear hb3 hk3 hd3
  have HOK0 := Lib.hid (new_ok (room := rm) (by omega))
  have HO0 := Lib.hid (calm_open (d := newD rm) ⟨rfl, rfl⟩ HOK0.out)
  have HA0 : Hid ((newD rm).all = []) := rfl
  rw [HA0.out, (sc_short (l := []) (by simp)).2] at HO0
  have HSC0 := Lib.hid (sc_short (l := []) (by simp)).1
  go_wp2_with fail
  refine (wopen_any none_ w3 w2.heap.size w2.heap.size _ D3.out (by rw [HA0.out]; simp)).mono ?_
  rintro y w4 ⟨_, h0⟩
  obtain ⟨gl, v4, rfl, hgl, hl4, hr4, hd4, hb4⟩ := h0 HO0.out.1
  rw [HO0.out.2] at hd4
  rw [HA0.out, HSC0.out] at hl4 hr4
  obtain ⟨p4, c4, rfl⟩ := hr4.shape
  have HW4 : WS2 none_ w w2.heap.size gl (uD rm [] [] (-1)) 0 (.slice none 0 0) [] (.slice none 0 0) [] w4 := ⟨B2.out.size, Nat.le_trans C3.out.size hgl, B2.out.trans ((C3.out.trans hb4.1).mono B2.out.size), addP none_ gl, .inr rfl, hd4, hl4, OwnV.nil_ _ _ _, OwnV.nil_ _ _ _, (fun g hg => by cases hg), (fun g hg => by cases hg), (fun g hg => by cases hg), fun g hg => hg.elim⟩
  have HREL : Hid (SRel w w2.heap.size gl rm 0 (.slice none 0 0) (.slice none 0 0) w4) := ⟨[], [], _, 0, ⟨⟨(fun x hx => by simp at hx), by simp, by rw [recsL_0]; decide⟩, -1, rfl, rfl⟩, HW4⟩
  clear h0 hgl hl4 hr4 hd4 hb4 HW4 D3 C3 HOK0 HO0 HA0 HSC0
  generalize w2.heap.size = B at *
  go_wp2_with fail
  go_loopw [7, 10, 11, 48] (fun l s r i wr => ∃ k gl : Nat, k ≤ n ∧ l = .pointer (some ⟨gl, 0, none⟩) ∧ i = .int .i64 k ∧ Hid (SRel w B gl rm k s r wr)) (fun _ _ _ i _ => n - (intOf i).toNat)
  case atStart => exact ⟨0, gl, by omega, rfl, rfl, HREL⟩
  case round =>
    obtain ⟨k, gl, hk, rfl, rfl, HK⟩ := hrel
    clear HREL
    by_cases hlt : k < n
    · have hltI : (k : Int) < (n : Int) := by omega
      obtain ⟨A, C, d, m, hinv, hws⟩ := HK.out
      obtain ⟨hall, fz, rfl, rfl⟩ := hinv
      obtain ⟨pA, cA, rfl⟩ := hws.formA
      obtain ⟨pC, cC, rfl⟩ := hws.formC
      have HALL := Lib.hid hall
      have HFX := Lib.hid (HFT.out.2 k hlt)
      obtain ⟨b, o, q, e, r, ml, rfl, hbl, hfit, d0, d1, d2, d3, d5, d6, d4⟩ := HR.out.at_ k hlt
      have c0 := (hws.bel.cell (p := ⟨b, o + k * 5, none⟩) hbl).trans d0
      have c1 := (hws.bel.cell (p := ⟨b, o + k * 5 + 1, none⟩) hbl).trans d1
      have c2 := (hws.bel.cell (p := ⟨b, o + k * 5 + 2, none⟩) hbl).trans d2
      have c3 := (hws.bel.cell (p := ⟨b, o + k * 5 + 3, none⟩) hbl).trans d5
      have c4' := (hws.bel.cell (p := ⟨b, o + k * 5 + 4, none⟩) hbl).trans d4
      have HDT := Lib.hid d3
      have HLT := Lib.hid d6
      have HFIT := Lib.hid hfit
      unfold OpW.Fit at HFIT
      generalize (f k).kind = kd at *
      generalize (f k).n = nn at *
      generalize (f k).turn = tt at *
      generalize (f k).data = D at *
      generalize (f k).list = L at *
      have HWA := Lib.hid (fun (x : Obj) => hws.alloc x)
      have hAC : A.length + C.length ≤ 50 := by have := hall.2.1; omega
      clear d0 d1 d2 d3 d4 d5 d6 hfit hbl hws hall HK
      have HW5 := Lib.hid (HWA.out (.cells #[.int .i64 kd, .int .i64 nn, .slice q D.length e, .slice r L.length ml, .int .u8 tt] 36))
      have HP5 : Hid (Blk (wr.alloc (.cells #[.int .i64 kd, .int .i64 nn, .slice q D.length e, .slice r L.length ml, .int .u8 tt] 36)) wr.heap.size #[.int .i64 kd, .int .i64 nn, .slice q D.length e, .slice r L.length ml, .int .u8 tt] 36) := Blk.new _ _ _
      go_upto_block 2 with fail
      generalize wr.alloc (.cells #[.int .i64 kd, .int .i64 nn, .slice q D.length e, .slice r L.length ml, .int .u8 tt] 36) = w5 at *
      clear HWA c0 c1 c2 c3 c4'
      generalize wr.heap.size = p13 at *
      go_cut [10, 11, 14, 48] from 48 to 214 (fun s r e i wx => ∃ E : Int, i = .int .i64 k ∧ e = .int .i64 E ∧ (E = 0 ∨ E = 60 ∨ E = 3 ∨ E = 2) ∧ Hid (MRel w B gl rm k s r wx))
      case first =>
        have HDO : Hid (Oct D) := HFIT.out.2.2.1
        have hD17 : D.length ≤ 17000 := HFX.out.1
        by_cases h0 : kd = 0
        · subst h0
          as_aux_lemma =>
            have q0 : w5.cell? ⟨p13, 0, none⟩ = some (.int .i64 0) := HP5.out.cell 0
            have q2 : w5.cell? ⟨p13, 2, none⟩ = some (.slice q D.length e) := HP5.out.cell 2
            have HP := Lib.hid (w2_put HW5.out (.slice q D.length e) D (by omega) HDO.out (by omega) (HDT.out.kept HW5.out.bel))
            have HPC := Lib.hid (put_cases rm (recsL A) (recsL C) D fz)
            go_wp2_with fail
            refine HP.out.mono ?_
            rintro y w6 ⟨rfl, hw6, hs6⟩
            clear q0 q2 HP
            rcases HPC.out with ⟨e1, hlen, g, e2⟩ | ⟨e1, hlen, j, hj, e2⟩ | ⟨e1, e2⟩ | ⟨e1, e2⟩
            · rw [e1, e2, if_pos rfl] at hw6
              rw [e1]
              have HW6 := Lib.hid hw6
              have HP6 : Hid (Blk w6 p13 #[.int .i64 0, .int .i64 nn, .slice q D.length e, .slice r L.length ml, .int .u8 tt] 36) := (hs6 p13 rfl HP5.out.lt).trans HP5.out
              clear hw6 hs6
              clear e1 e2 HPC
              have k8 := conv_row (P := Try.prog) w6 34 9 5 Try.underlying34 Try.underlying5 Try.underlying9 _ _ (HDT.out.kept HW6.out.bel)
              have q2 := HP6.out.cell 2
              have q2' : w6.cell? ⟨p13, 2, none⟩ = some (.slice q D.length e) := q2
              clear q2
              go_wp2_with (at_builtin; with_reducible refine stop_appendW (.tmp 66) (.tmp 70) 33 rfl ?_)
              refine w2_pushC HW6.out rfl (.tmp 66) (.tmp 70) rfl D _ rfl rfl rfl (by omega) (C.length + 1) rfl ?_
              intro p7 c7 w7 hw7 _
              have HFIN : Hid (MRel w B gl rm k (.slice pA A.length cA) (.slice p7 (C.length + 1) c7) w7) := ⟨A, C ++ [D], _, _, mid_put HALL.out HDO.out hlen g, hw7.weak (fun _ h => h.elim)⟩
              clear k8 q2' hw7
              go_wp2_with fail
              go_meet
              exact ⟨0, rfl, rfl, .inl rfl, Lib.hid HFIN.out⟩
            · rw [e1, e2, if_neg (by decide)] at hw6
              rw [e1]
              have HW6 := Lib.hid hw6
              have HP6 : Hid (Blk w6 p13 #[.int .i64 0, .int .i64 nn, .slice q D.length e, .slice r L.length ml, .int .u8 tt] 36) := (hs6 p13 rfl HP5.out.lt).trans HP5.out
              clear hw6 hs6
              have HJ := Lib.hid hj
              clear e1 e2 HPC hj
              have k8 := conv_row (P := Try.prog) w6 34 9 5 Try.underlying34 Try.underlying5 Try.underlying9 _ _ (HDT.out.kept HW6.out.bel)
              have q2 := HP6.out.cell 2
              have q2' : w6.cell? ⟨p13, 2, none⟩ = some (.slice q D.length e) := q2
              clear q2
              go_wp2_with (at_builtin; with_reducible refine stop_appendW (.tmp 66) (.tmp 70) 33 rfl ?_)
              refine w2_pushC HW6.out rfl (.tmp 66) (.tmp 70) rfl D _ rfl rfl rfl (by omega) (C.length + 1) rfl ?_
              intro p7 c7 w7 hw7 _
              have HFIN : Hid (MRel w B gl rm k (.slice pA A.length cA) (.slice p7 (C.length + 1) c7) w7) := ⟨A, C ++ [D], _, _, mid_part HALL.out HDO.out hlen HJ.out, hw7.weak (fun _ h => h.elim)⟩
              clear k8 q2' hw7
              go_wp2_with fail
              go_meet
              exact ⟨60, rfl, rfl, .inr (.inl rfl), Lib.hid HFIN.out⟩
            · rw [e1, e2, if_neg (by decide)] at hw6
              rw [e1]
              have HW6 := Lib.hid hw6
              have HP6 : Hid (Blk w6 p13 #[.int .i64 0, .int .i64 nn, .slice q D.length e, .slice r L.length ml, .int .u8 tt] 36) := (hs6 p13 rfl HP5.out.lt).trans HP5.out
              clear hw6 hs6
              clear e1 e2 HPC
              have HFIN : Hid (MRel w B gl rm k (.slice pA A.length cA) (.slice pC C.length cC) w6) := ⟨A, C, _, _, mid_same HALL.out fz, HW6.out.weak (fun _ h => h.elim)⟩
              go_wp2_with fail
              go_meet
              exact ⟨3, rfl, rfl, .inr (.inr (.inl rfl)), Lib.hid HFIN.out⟩
            · rw [e1, e2, if_neg (by decide)] at hw6
              rw [e1]
              have HW6 := Lib.hid hw6
              have HP6 : Hid (Blk w6 p13 #[.int .i64 0, .int .i64 nn, .slice q D.length e, .slice r L.length ml, .int .u8 tt] 36) := (hs6 p13 rfl HP5.out.lt).trans HP5.out
              clear hw6 hs6
              clear e1 e2 HPC
              have HFIN : Hid (MRel w B gl rm k (.slice pA A.length cA) (.slice pC C.length cC) w6) := ⟨A, C, _, _, mid_same HALL.out fz, HW6.out.weak (fun _ h => h.elim)⟩
              go_wp2_with fail
              go_meet
              exact ⟨2, rfl, rfl, .inr (.inr (.inr rfl)), Lib.hid HFIN.out⟩
        by_cases h1 : kd = 1
        · subst h1
          as_aux_lemma =>
            have q0 : w5.cell? ⟨p13, 0, none⟩ = some (.int .i64 1) := HP5.out.cell 0
            have q2 : w5.cell? ⟨p13, 2, none⟩ = some (.slice q D.length e) := HP5.out.cell 2
            have HP := Lib.hid (w2_add HW5.out (.slice q D.length e) D (by omega) HDO.out (by omega) (HDT.out.kept HW5.out.bel))
            have HPC := Lib.hid (add_cases rm (recsL A) (recsL C) D fz)
            go_wp2_with fail
            refine HP.out.mono ?_
            rintro y w6 ⟨rfl, hw6, hs6⟩
            clear q0 q2 HP
            rcases HPC.out with ⟨e1, e0, hlen, g, e2⟩ | ⟨e1, e0, hlen, j, hj, e2⟩ | ⟨e1, e0, e2⟩ | ⟨e1, e0, e2⟩
            · rw [e0, e2, if_pos rfl] at hw6
              rw [e1]
              have HW6 := Lib.hid hw6
              have HP6 : Hid (Blk w6 p13 #[.int .i64 1, .int .i64 nn, .slice q D.length e, .slice r L.length ml, .int .u8 tt] 36) := (hs6 p13 rfl HP5.out.lt).trans HP5.out
              clear hw6 hs6
              clear e1 e0 e2 HPC
              go_upto_region 22 with (fail)
              have HWd : Hid (WS2 (fun b => b = p13) w B gl _ _ (.slice pA A.length cA) A (.slice pC C.length cC) C w6.drew) := HW6.out.kept (Below.refl _ _).drew
              have HPd : Hid (Blk w6.drew p13 #[.int .i64 1, .int .i64 nn, .slice q D.length e, .slice r L.length ml, .int .u8 tt] 36) := HP6.out
              refine wp_region_held_drew (S := fun w' => w'.cell? ⟨p13, 2, none⟩ = some (.slice q D.length e) ∧ (convert 34 9 (.slice q D.length e)).run Try.prog w' = .ok (.string (strOfNums D)) w') (by kernel_rfl) ⟨(show w6.drew.cell? ⟨p13, 2, none⟩ = some (.slice q D.length e) from HPd.out.cell 2), conv_row (P := Try.prog) w6.drew 34 9 5 Try.underlying34 Try.underlying5 Try.underlying9 _ _ (HDT.out.kept HWd.out.bel)⟩ (fun hS0 => ?_)
              refine wpAnyH_take (i := 0) (v := ?_) rfl (by kernel_rfl) (by kernel_rfl) (by kernel_rfl) (fun _ _ _ h => h) (Or.inl ⟨by kernel_rfl, ?_⟩) (by first | assumption | trivial) ?_
              rotate_left
              · intro w hSw
                try dsimp only at hSw
                first | (go_simp; done) | (go_simp; with_reducible rfl)
              try simp only [Act.put, List.getElem_toArray, List.getElem_cons_succ, List.getElem_cons_zero, List.setIfInBounds_toArray, List.set_cons_zero, List.set_cons_succ]
              refine wpAnyH_take (i := 1) (v := ?_) rfl (by kernel_rfl) (by kernel_rfl) (by kernel_rfl) (fun _ _ _ h => h) (Or.inl ⟨by kernel_rfl, ?_⟩) (by first | assumption | trivial) ?_
              rotate_left
              · intro w hSw
                try dsimp only at hSw
                first | (go_simp; done) | (go_simp; with_reducible rfl)
              try simp only [Act.put, List.getElem_toArray, List.getElem_cons_succ, List.getElem_cons_zero, List.setIfInBounds_toArray, List.set_cons_zero, List.set_cons_succ]
              refine wpAnyH_take (i := 3) (v := ?_) rfl (by kernel_rfl) (by kernel_rfl) (by kernel_rfl) (fun _ _ _ h => h) (Or.inl ⟨by kernel_rfl, ?_⟩) (by first | assumption | trivial) ?_
              rotate_left
              · intro w hSw
                try dsimp only at hSw
                first | (go_simp; done) | (go_simp; with_reducible rfl)
              try simp only [Act.put, List.getElem_toArray, List.getElem_cons_succ, List.getElem_cons_zero, List.setIfInBounds_toArray, List.set_cons_zero, List.set_cons_succ]
              refine wpAnyH_take (i := 4) (v := ?_) rfl (by kernel_rfl) (by kernel_rfl) (by kernel_rfl) (fun _ _ _ h => h) (Or.inl ⟨by kernel_rfl, ?_⟩) (by first | assumption | trivial) ?_
              rotate_left
              · intro w hSw
                try dsimp only at hSw
                first | (go_simp; done) | (go_simp; with_reducible rfl)
              try simp only [Act.put, List.getElem_toArray, List.getElem_cons_succ, List.getElem_cons_zero, List.setIfInBounds_toArray, List.set_cons_zero, List.set_cons_succ]
              refine wpAnyH_take (i := 5) (v := ?_) rfl (by kernel_rfl) (by kernel_rfl) (by kernel_rfl) (fun _ _ _ h => h) (Or.inl ⟨by kernel_rfl, ?_⟩) (by first | assumption | trivial) ?_
              rotate_left
              · intro w hSw
                try dsimp only at hSw
                first | (go_simp; done) | (go_simp; with_reducible rfl)
              try simp only [Act.put, List.getElem_toArray, List.getElem_cons_succ, List.getElem_cons_zero, List.setIfInBounds_toArray, List.set_cons_zero, List.set_cons_succ]
              refine wpAnyH_ready (rs := [2, 6]) (by kernel_rfl) (by simp) ?_
              refine AllReadyH.cons rfl (fun K hK => ?_) (AllReadyH.cons rfl (fun K hK => ?_) AllReadyH.nil)
              · skip
                refine s2_cat HWd.out rfl (.tmp 80) (.tmp 81) rfl rfl rfl (by omega) (A.length + C.length) rfl ?_
                intro p8 c8 w8 hw8 hs8 hk8
                have HW8 := Lib.hid hw8
                have HP8 : Hid (Blk w8 p13 #[.int .i64 1, .int .i64 nn, .slice q D.length e, .slice r L.length ml, .int .u8 tt] 36) := (hk8 p13 (HWd.out.gnv (g := p13) rfl).1 (HWd.out.glt (g := p13) rfl)).trans HPd.out
                have HK8 := Lib.hid hk8
                clear hw8 hs8 hk8
                refine hK.out _ _ ⟨(show w8.cell? ⟨p13, 2, none⟩ = some (.slice q D.length e) from HP8.out.cell 2), conv_row (P := Try.prog) w8 34 9 5 Try.underlying34 Try.underlying5 Try.underlying9 _ _ (HDT.out.kept HW8.out.bel)⟩ (fun _ => ?_)
                clear hK K
                try simp only [Act.put, List.getElem_toArray, List.getElem_cons_succ, List.getElem_cons_zero, List.setIfInBounds_toArray, List.set_cons_zero, List.set_cons_succ]
                refine wpAnyH_ready (rs := [6]) (by kernel_rfl) (by simp) ?_
                refine AllReadyH.cons rfl (fun K hK => ?_) AllReadyH.nil
                go_simp
                have HWb := Lib.hid (HW8.out.kept (oneB w8 (.cells #[.string (strOfNums D)] 9)))
                have HPb : Hid (Blk (w8.alloc (.cells #[.string (strOfNums D)] 9)) p13 #[.int .i64 1, .int .i64 nn, .slice q D.length e, .slice r L.length ml, .int .u8 tt] 36) := HP8.out.alloc _
                have HCb : Hid ((w8.alloc (.cells #[.string (strOfNums D)] 9)).cell? ⟨w8.heap.size, 0, none⟩ = some (.string (strOfNums D))) := (Blk.new w8 #[.string (strOfNums D)] 9).cell 0
                refine hK.out _ _ ⟨(show (w8.alloc (.cells #[.string (strOfNums D)] 9)).cell? ⟨p13, 2, none⟩ = some (.slice q D.length e) from HPb.out.cell 2), conv_row (P := Try.prog) (w8.alloc (.cells #[.string (strOfNums D)] 9)) 34 9 5 Try.underlying34 Try.underlying5 Try.underlying9 _ _ (HDT.out.kept HWb.out.bel)⟩ (fun _ => ?_)
                clear hK K
                try simp only [Act.put, List.getElem_toArray, List.getElem_cons_succ, List.getElem_cons_zero, List.setIfInBounds_toArray, List.set_cons_zero, List.set_cons_succ]
                refine wpAnyH_ready (rs := [7]) (by kernel_rfl) (by simp) ?_
                refine AllReadyH.cons rfl (fun K hK => ?_) AllReadyH.nil
                refine s2_pushA HWb.out rfl (.tmp 82) (.tmp 86) rfl D _ HCb.out rfl rfl (by rw [List.length_append]; omega) (A.length + C.length + 1) (by rw [List.length_append]) ?_
                intro p9 c9 w9 hw9 hk9
                have HW9 := Lib.hid hw9
                have HP9 : Hid (Blk w9 p13 #[.int .i64 1, .int .i64 nn, .slice q D.length e, .slice r L.length ml, .int .u8 tt] 36) := (hk9 p13 (HWb.out.gnv (g := p13) rfl).1 (HWb.out.glt (g := p13) rfl)).trans HPb.out
                clear hw9 hk9
                refine hK.out _ _ ⟨(show w9.cell? ⟨p13, 2, none⟩ = some (.slice q D.length e) from HP9.out.cell 2), conv_row (P := Try.prog) w9 34 9 5 Try.underlying34 Try.underlying5 Try.underlying9 _ _ (HDT.out.kept HW9.out.bel)⟩ (fun _ => ?_)
                clear hK K
                try simp only [Act.put, List.getElem_toArray, List.getElem_cons_succ, List.getElem_cons_zero, List.setIfInBounds_toArray, List.set_cons_zero, List.set_cons_succ]
                refine wpAnyH_take (i := 8) (v := ?_) rfl (by kernel_rfl) (by kernel_rfl) (by kernel_rfl) (fun _ _ _ h => h) (Or.inl ⟨by kernel_rfl, ?_⟩) (by first | assumption | trivial) ?_
                rotate_left
                · intro w hSw
                  try dsimp only at hSw
                  first | (go_simp; done) | (go_simp; with_reducible rfl)
                try simp only [Act.put, List.getElem_toArray, List.getElem_cons_succ, List.getElem_cons_zero, List.setIfInBounds_toArray, List.set_cons_zero, List.set_cons_succ]
                refine wpAnyH_take (i := 9) (v := ?_) rfl (by kernel_rfl) (by kernel_rfl) (by kernel_rfl) (fun _ _ _ h => h) (Or.inl ⟨by kernel_rfl, ?_⟩) (by first | assumption | trivial) ?_
                rotate_left
                · intro w hSw
                  try dsimp only at hSw
                  first | (go_simp; done) | (go_simp; with_reducible rfl)
                try simp only [Act.put, List.getElem_toArray, List.getElem_cons_succ, List.getElem_cons_zero, List.setIfInBounds_toArray, List.set_cons_zero, List.set_cons_succ]
                refine wpAnyH_done (by kernel_rfl) ?_ _
                have HFIN : Hid (MRel w B gl rm k (.slice p9 (A.length + C.length + 1) c9) (.slice none 0 0) w9) := ⟨A ++ C ++ [D], [], _, _, mid_add HALL.out HDO.out hlen g, HW9.out.weak (fun _ h => h.elim)⟩
                go_wp2_with fail
                go_meet
                exact ⟨0, rfl, rfl, .inl rfl, Lib.hid HFIN.out⟩
              · skip
                go_simp
                have HWb := Lib.hid (HWd.out.kept (oneB w6.drew (.cells #[.string (strOfNums D)] 9)))
                have HPb : Hid (Blk (w6.drew.alloc (.cells #[.string (strOfNums D)] 9)) p13 #[.int .i64 1, .int .i64 nn, .slice q D.length e, .slice r L.length ml, .int .u8 tt] 36) := HPd.out.alloc _
                have HCb : Hid ((w6.drew.alloc (.cells #[.string (strOfNums D)] 9)).cell? ⟨w6.drew.heap.size, 0, none⟩ = some (.string (strOfNums D))) := (Blk.new w6.drew #[.string (strOfNums D)] 9).cell 0
                have HVL := Lib.hid HWd.out.vlt
                refine hK.out _ _ ⟨(show (w6.drew.alloc (.cells #[.string (strOfNums D)] 9)).cell? ⟨p13, 2, none⟩ = some (.slice q D.length e) from HPb.out.cell 2), conv_row (P := Try.prog) (w6.drew.alloc (.cells #[.string (strOfNums D)] 9)) 34 9 5 Try.underlying34 Try.underlying5 Try.underlying9 _ _ (HDT.out.kept HWb.out.bel)⟩ (fun _ => ?_)
                clear hK K
                try simp only [Act.put, List.getElem_toArray, List.getElem_cons_succ, List.getElem_cons_zero, List.setIfInBounds_toArray, List.set_cons_zero, List.set_cons_succ]
                refine wpAnyH_ready (rs := [2]) (by kernel_rfl) (by simp) ?_
                refine AllReadyH.cons rfl (fun K hK => ?_) AllReadyH.nil
                refine s2_cat HWb.out rfl (.tmp 80) (.tmp 81) rfl rfl rfl (by omega) (A.length + C.length) rfl ?_
                intro p8 c8 w8 hw8 hs8 hk8
                have HW8 := Lib.hid hw8
                have HP8 : Hid (Blk w8 p13 #[.int .i64 1, .int .i64 nn, .slice q D.length e, .slice r L.length ml, .int .u8 tt] 36) := (hk8 p13 (HWb.out.gnv (g := p13) rfl).1 (HWb.out.glt (g := p13) rfl)).trans HPb.out
                have HK8 := Lib.hid hk8
                clear hw8 hs8 hk8
                refine hK.out _ _ ⟨(show w8.cell? ⟨p13, 2, none⟩ = some (.slice q D.length e) from HP8.out.cell 2), conv_row (P := Try.prog) w8 34 9 5 Try.underlying34 Try.underlying5 Try.underlying9 _ _ (HDT.out.kept HW8.out.bel)⟩ (fun _ => ?_)
                clear hK K
                try simp only [Act.put, List.getElem_toArray, List.getElem_cons_succ, List.getElem_cons_zero, List.setIfInBounds_toArray, List.set_cons_zero, List.set_cons_succ]
                have HC8 : Hid (w8.cell? ⟨w6.drew.heap.size, 0, none⟩ = some (.string (strOfNums D))) := (World.cell?_of_block (HK8.out w6.drew.heap.size (fun h => absurd (HVL.out _ h) (Nat.lt_irrefl _)) (by simp))).trans HCb.out
                refine wpAnyH_ready (rs := [7]) (by kernel_rfl) (by simp) ?_
                refine AllReadyH.cons rfl (fun K hK => ?_) AllReadyH.nil
                refine s2_pushA HW8.out rfl (.tmp 82) (.tmp 86) rfl D _ HC8.out rfl rfl (by rw [List.length_append]; omega) (A.length + C.length + 1) (by rw [List.length_append]) ?_
                intro p9 c9 w9 hw9 hk9
                have HW9 := Lib.hid hw9
                have HP9 : Hid (Blk w9 p13 #[.int .i64 1, .int .i64 nn, .slice q D.length e, .slice r L.length ml, .int .u8 tt] 36) := (hk9 p13 (HW8.out.gnv (g := p13) rfl).1 (HW8.out.glt (g := p13) rfl)).trans HP8.out
                clear hw9 hk9
                refine hK.out _ _ ⟨(show w9.cell? ⟨p13, 2, none⟩ = some (.slice q D.length e) from HP9.out.cell 2), conv_row (P := Try.prog) w9 34 9 5 Try.underlying34 Try.underlying5 Try.underlying9 _ _ (HDT.out.kept HW9.out.bel)⟩ (fun _ => ?_)
                clear hK K
                try simp only [Act.put, List.getElem_toArray, List.getElem_cons_succ, List.getElem_cons_zero, List.setIfInBounds_toArray, List.set_cons_zero, List.set_cons_succ]
                refine wpAnyH_take (i := 8) (v := ?_) rfl (by kernel_rfl) (by kernel_rfl) (by kernel_rfl) (fun _ _ _ h => h) (Or.inl ⟨by kernel_rfl, ?_⟩) (by first | assumption | trivial) ?_
                rotate_left
                · intro w hSw
                  try dsimp only at hSw
                  first | (go_simp; done) | (go_simp; with_reducible rfl)
                try simp only [Act.put, List.getElem_toArray, List.getElem_cons_succ, List.getElem_cons_zero, List.setIfInBounds_toArray, List.set_cons_zero, List.set_cons_succ]
                refine wpAnyH_take (i := 9) (v := ?_) rfl (by kernel_rfl) (by kernel_rfl) (by kernel_rfl) (fun _ _ _ h => h) (Or.inl ⟨by kernel_rfl, ?_⟩) (by first | assumption | trivial) ?_
                rotate_left
                · intro w hSw
                  try dsimp only at hSw
                  first | (go_simp; done) | (go_simp; with_reducible rfl)
                try simp only [Act.put, List.getElem_toArray, List.getElem_cons_succ, List.getElem_cons_zero, List.setIfInBounds_toArray, List.set_cons_zero, List.set_cons_succ]
                refine wpAnyH_done (by kernel_rfl) ?_ _
                have HFIN : Hid (MRel w B gl rm k (.slice p9 (A.length + C.length + 1) c9) (.slice none 0 0) w9) := ⟨A ++ C ++ [D], [], _, _, mid_add HALL.out HDO.out hlen g, HW9.out.weak (fun _ h => h.elim)⟩
                go_wp2_with fail
                go_meet
                exact ⟨0, rfl, rfl, .inl rfl, Lib.hid HFIN.out⟩
            · rw [e0, e2, if_neg (by decide)] at hw6
              rw [e1]
              have HW6 := Lib.hid hw6
              have HP6 : Hid (Blk w6 p13 #[.int .i64 1, .int .i64 nn, .slice q D.length e, .slice r L.length ml, .int .u8 tt] 36) := (hs6 p13 rfl HP5.out.lt).trans HP5.out
              clear hw6 hs6
              have HJ := Lib.hid hj
              clear e1 e0 e2 HPC hj
              have k8 := conv_row (P := Try.prog) w6 34 9 5 Try.underlying34 Try.underlying5 Try.underlying9 _ _ (HDT.out.kept HW6.out.bel)
              have q2 := HP6.out.cell 2
              have q2' : w6.cell? ⟨p13, 2, none⟩ = some (.slice q D.length e) := q2
              clear q2
              go_wp2_with (at_builtin; with_reducible refine stop_appendW (.tmp 90) (.tmp 94) 33 rfl ?_)
              refine w2_pushC HW6.out rfl (.tmp 90) (.tmp 94) rfl D _ rfl rfl rfl (by omega) (C.length + 1) rfl ?_
              intro p7 c7 w7 hw7 _
              have HFIN : Hid (MRel w B gl rm k (.slice pA A.length cA) (.slice p7 (C.length + 1) c7) w7) := ⟨A, C ++ [D], _, _, mid_part HALL.out HDO.out hlen HJ.out, hw7.weak (fun _ h => h.elim)⟩
              clear k8 q2' hw7
              go_wp2_with fail
              go_meet
              exact ⟨60, rfl, rfl, .inr (.inl rfl), Lib.hid HFIN.out⟩
            · rw [e0, e2, if_neg (by decide)] at hw6
              rw [e1]
              have HW6 := Lib.hid hw6
              have HP6 : Hid (Blk w6 p13 #[.int .i64 1, .int .i64 nn, .slice q D.length e, .slice r L.length ml, .int .u8 tt] 36) := (hs6 p13 rfl HP5.out.lt).trans HP5.out
              clear hw6 hs6
              clear e1 e0 e2 HPC
              have HFIN : Hid (MRel w B gl rm k (.slice pA A.length cA) (.slice pC C.length cC) w6) := ⟨A, C, _, _, mid_same HALL.out fz, HW6.out.weak (fun _ h => h.elim)⟩
              go_wp2_with fail
              go_meet
              exact ⟨3, rfl, rfl, .inr (.inr (.inl rfl)), Lib.hid HFIN.out⟩
            · rw [e0, e2, if_neg (by decide)] at hw6
              rw [e1]
              have HW6 := Lib.hid hw6
              have HP6 : Hid (Blk w6 p13 #[.int .i64 1, .int .i64 nn, .slice q D.length e, .slice r L.length ml, .int .u8 tt] 36) := (hs6 p13 rfl HP5.out.lt).trans HP5.out
              clear hw6 hs6
              clear e1 e0 e2 HPC
              have HFIN : Hid (MRel w B gl rm k (.slice pA A.length cA) (.slice pC C.length cC) w6) := ⟨A, C, _, _, mid_same HALL.out fz, HW6.out.weak (fun _ h => h.elim)⟩
              go_wp2_with fail
              go_meet
              exact ⟨2, rfl, rfl, .inr (.inr (.inr rfl)), Lib.hid HFIN.out⟩
        by_cases h2 : kd = 2
        · subst h2
          as_aux_lemma =>
            have q0 : w5.cell? ⟨p13, 0, none⟩ = some (.int .i64 2) := HP5.out.cell 0
            have HP := Lib.hid (w2_sync HW5.out)
            rw [(sync_up rm (recsL A) (recsL C) fz).1, (sync_up rm (recsL A) (recsL C) fz).2] at HP
            go_wp2_with fail
            refine HP.out.mono ?_
            rintro y w6 ⟨rfl, hw6, _⟩
            have HW6 := Lib.hid hw6
            clear q0 HP hw6
            go_wp2_with (at_builtin; with_reducible refine stop_appendW (.tmp 102) (.tmp 103) 33 rfl ?_)
            refine w2_cat HW6.out rfl (.tmp 102) (.tmp 103) rfl rfl rfl (by omega) (A.length + C.length) rfl ?_
            intro p7 c7 w7 hw7 _ _
            have HFIN : Hid (MRel w B gl rm k (.slice p7 (A.length + C.length) c7) (.slice none 0 0) w7) := ⟨A ++ C, [], _, _, mid_sync HALL.out fz, hw7.weak (fun _ h => h.elim)⟩
            clear hw7
            go_wp2_with fail
            go_meet
            exact ⟨0, rfl, rfl, .inl rfl, Lib.hid HFIN.out⟩
        by_cases h3 : kd = 3
        · subst h3
          as_aux_lemma =>
            have q0 : w5.cell? ⟨p13, 0, none⟩ = some (.int .i64 3) := HP5.out.cell 0
            have q3 : w5.cell? ⟨p13, 3, none⟩ = some (.slice r L.length ml) := HP5.out.cell 3
            have HP := Lib.hid (w2_renew HW5.out (.slice r L.length ml) L HFIT.out.2.2.2.1 (by have := HFX.out.2.1; omega) (fun d hd => Nat.le_trans (HFX.out.2.2 d hd) (by decide)) (HLT.out.kept HW5.out.bel))
            have HPC := Lib.hid (ren_cases rm (recsL A) (recsL C) fz (dss := L) (fun d hd => Nat.le_trans (HFX.out.2.2 d hd) (by decide)))
            go_wp2_with fail
            refine HP.out.mono ?_
            rintro y w6 ⟨rfl, hw6, hs6⟩
            clear q0 q3 HP
            rcases HPC.out with ⟨e1, e0, g, e2⟩ | ⟨e1, e0, e2⟩ | ⟨e1, e0, e2⟩
            · rw [e0, e2, if_pos rfl] at hw6
              rw [e1]
              have HW6 := Lib.hid hw6
              have HP6 : Hid (Blk w6 p13 #[.int .i64 3, .int .i64 nn, .slice q D.length e, .slice r L.length ml, .int .u8 tt] 36) := (hs6 p13 rfl HP5.out.lt).trans HP5.out
              clear hw6 hs6
              clear e1 e0 e2 HPC
              have q3 : w6.cell? ⟨p13, 3, none⟩ = some (.slice r L.length ml) := HP6.out.cell 3
              have HLL := Lib.hid (fun (i : Nat) (hi : i < L.length) => HLT.out.at_ i hi)
              have HW7 : Hid (WS2 none_ w B gl (uD rm (recsL L) [] g) L.length (.slice none 0 0) (L.take 0) (.slice none 0 0) [] w6) := (HW6.out.dropA.dropC).weak (fun _ h => h.elim)
              have HLO := Lib.hid HFIT.out.2.2.2.1
              have HLS := Lib.hid HFX.out.2
              have hL10 : L.length ≤ 10 := HFX.out.2.1
              generalize hln : L.length = ln at *
              have HLN := Lib.hid hln
              clear HW6 HW5 HP5 HP6 hln
              go_wp2_with fail
              go_loopw [10, 116] (fun s i wq => ∃ jj : Nat, jj ≤ ln ∧ i = .int .i64 jj ∧ Hid (WS2 none_ w B gl (uD rm (recsL L) [] g) ln s (L.take jj) (.slice none 0 0) [] wq)) (fun _ i _ => ln - (intOf i).toNat)
              case atStart => exact ⟨0, by omega, rfl, HW7.out⟩
              case round =>
                obtain ⟨jj, hj, rfl, HK7⟩ := hrel
                clear HW7
                have HTL : Hid ((L.take jj).length = jj) := by show _ = _; rw [List.length_take, HLN.out]; omega
                obtain ⟨p9, c9, hv9⟩ := HK7.out.formA
                rw [HTL.out] at hv9
                subst hv9
                by_cases hlt2 : jj < ln
                · have hjl : jj < L.length := by rw [HLN.out]; exact hlt2
                  have hltJ : (jj : Int) < (ln : Int) := by omega
                  obtain ⟨b2, o2, q2, dd, rfl, hcw, hrow⟩ := HLL.out jj (by omega)
                  have hcj := (HK7.out.bel.cell (p := ⟨b2, o2 + jj, none⟩) (World.block_lt_of_cell? w _ hcw)).trans hcw
                  have hget : L.getD jj [] = L[jj] := by rw [List.getD_eq_getElem?_getD, List.getElem?_eq_getElem hjl]; rfl
                  have HTK : Hid (L.take (jj + 1) = L.take jj ++ [L[jj]]) := List.take_succ_eq_append_getElem hjl
                  rw [hget] at hcj hrow
                  have HROW := Lib.hid hrow
                  clear hget hrow hcw
                  generalize L[jj] = ys at *
                  have k8 := conv_row (P := Try.prog) _ 34 9 5 Try.underlying34 Try.underlying5 Try.underlying9 _ _ (HROW.out.kept HK7.out.bel)
                  go_wp2_with (at_builtin; with_reducible refine stop_appendW (.tmp 120) (.tmp 123) 33 rfl ?_)
                  refine w2_pushA HK7.out rfl (.tmp 120) (.tmp 123) rfl ys _ rfl rfl rfl (by rw [HTL.out]; omega) (jj + 1) (by rw [HTL.out]) ?_
                  intro p10 c10 w10 hw10 _
                  rw [← HTK.out] at hw10
                  have HNX := Lib.hid hw10
                  clear hw10 k8
                  go_wp2_with fail
                  go_roundw
                  case rel => exact ⟨jj + 1, by omega, by go_num, HNX⟩
                  case measure => simp [intOf]; omega
                · have hle2 : (ln : Int) ≤ (jj : Int) := by omega
                  have hkn : jj = ln := by omega
                  have hw6 := HK7.out
                  rw [hkn, show L.take ln = L by rw [← HLN.out, List.take_length]] at hw6
                  have HMN : Mid7 rm (k + 1) (uD rm (recsL L) [] g) ln L [] := by
                    have h := mid_new (rm := rm) (k := k) HLO.out (by rw [HLN.out]; exact hL10) HLS.out.2 g
                    rw [HLN.out] at h
                    exact h
                  have HFM := fun (W : World) (h : WS2 none_ w B gl (uD rm (recsL L) [] g) ln (.slice p9 ln c9) L (.slice none 0 0) [] W) => (⟨L, [], _, _, HMN, h⟩ : MRel w B gl rm k (.slice p9 ln c9) (.slice none 0 0) W)
                  have HFIN := Lib.hid (HFM _ hw6)
                  clear HFM HMN
                  clear HK7 HTL hw6
                  rw [hkn]
                  clear hkn hle2 hj hlt2
                  go_wp2_with fail
                  go_meet
                  exact ⟨0, rfl, rfl, .inl rfl, Lib.hid HFIN.out⟩
            · rw [e0, e2, if_neg (by decide)] at hw6
              rw [e1]
              have HW6 := Lib.hid hw6
              have HP6 : Hid (Blk w6 p13 #[.int .i64 3, .int .i64 nn, .slice q D.length e, .slice r L.length ml, .int .u8 tt] 36) := (hs6 p13 rfl HP5.out.lt).trans HP5.out
              clear hw6 hs6
              clear e1 e0 e2 HPC
              have HFIN : Hid (MRel w B gl rm k (.slice pA A.length cA) (.slice pC C.length cC) w6) := ⟨A, C, _, _, mid_ren HALL.out, HW6.out.weak (fun _ h => h.elim)⟩
              go_wp2_with fail
              go_meet
              exact ⟨60, rfl, rfl, .inr (.inl rfl), Lib.hid HFIN.out⟩
            · rw [e0, e2, if_neg (by decide)] at hw6
              rw [e1]
              have HW6 := Lib.hid hw6
              have HP6 : Hid (Blk w6 p13 #[.int .i64 3, .int .i64 nn, .slice q D.length e, .slice r L.length ml, .int .u8 tt] 36) := (hs6 p13 rfl HP5.out.lt).trans HP5.out
              clear hw6 hs6
              clear e1 e0 e2 HPC
              have HFIN : Hid (MRel w B gl rm k (.slice pA A.length cA) (.slice pC C.length cC) w6) := ⟨A, C, _, _, mid_same HALL.out fz, HW6.out.weak (fun _ h => h.elim)⟩
              go_wp2_with fail
              go_meet
              exact ⟨3, rfl, rfl, .inr (.inr (.inl rfl)), Lib.hid HFIN.out⟩
        by_cases h4 : kd = 4
        · subst h4
          as_aux_lemma =>
            have q0 : w5.cell? ⟨p13, 0, none⟩ = some (.int .i64 4) := HP5.out.cell 0
            have q1 : w5.cell? ⟨p13, 1, none⟩ = some (.int .i64 nn) := HP5.out.cell 1
            have q4 : w5.cell? ⟨p13, 4, none⟩ = some (.int .u8 tt) := HP5.out.cell 4
            have HP := Lib.hid (w2_crash HW5.out nn tt HFIT.out.2.2.2.2 (uD_fits HW5.out.ok))
            rw [crash_up] at HP
            go_wp2_with fail
            refine HP.out.mono ?_
            rintro y w6 ⟨rfl, hw6, _⟩
            have HW6 := Lib.hid hw6
            clear q0 q1 q4 HP hw6
            have HFIN : Hid (MRel w B gl rm k (.slice pA A.length cA) (.slice pC C.length cC) w6) := ⟨A, C, _, _, mid_crash HALL.out nn HFIT.out.2.2.2.2, HW6.out.weak (fun _ h => h.elim)⟩
            go_wp2_with fail
            go_meet
            exact ⟨0, rfl, rfl, .inl rfl, Lib.hid HFIN.out⟩
        by_cases h5 : kd = 5
        · subst h5
          as_aux_lemma =>
            have q0 : w5.cell? ⟨p13, 0, none⟩ = some (.int .i64 5) := HP5.out.cell 0
            have q1 : w5.cell? ⟨p13, 1, none⟩ = some (.int .i64 nn) := HP5.out.cell 1
            have HP := Lib.hid (w2_fuse HW5.out nn HFIT.out.2.1.1 HFIT.out.2.1.2)
            go_wp2_with fail
            refine HP.out.mono ?_
            rintro y w6 ⟨rfl, hw6, _⟩
            have HW6 : Hid (WS2 (fun b => b = p13) w B gl (uD rm (recsL A) (recsL C) nn) (A.length + C.length) (.slice pA A.length cA) A (.slice pC C.length cC) C w6) := hw6
            clear q0 q1 HP hw6
            have HFIN : Hid (MRel w B gl rm k (.slice pA A.length cA) (.slice pC C.length cC) w6) := ⟨A, C, _, _, mid_same HALL.out nn, HW6.out.weak (fun _ h => h.elim)⟩
            go_wp2_with fail
            go_meet
            exact ⟨0, rfl, rfl, .inl rfl, Lib.hid HFIN.out⟩
        have HFIN : Hid (MRel w B gl rm k (.slice pA A.length cA) (.slice pC C.length cC) w5) := ⟨A, C, _, _, mid_same HALL.out fz, HW5.out.weak (fun _ h => h.elim)⟩
        have q0 : w5.cell? ⟨p13, 0, none⟩ = some (.int .i64 kd) := HP5.out.cell 0
        go_wp2_with fail
        go_meet
        exact ⟨0, rfl, rfl, .inl rfl, Lib.hid HFIN.out⟩
      case rest =>
        as_aux_lemma =>
          obtain ⟨E, rfl, rfl, hE, HM⟩ := hcut
          obtain ⟨A2, C2, d2, m2, hmid, hw2⟩ := HM.out
          obtain ⟨hall2, hcase⟩ := hmid
          obtain ⟨pA2, cA2, rfl⟩ := hw2.formA
          obtain ⟨pC2, cC2, rfl⟩ := hw2.formC
          have HALL2 := Lib.hid hall2
          have hAC2 : A2.length + C2.length ≤ 51 := by have := hall2.2.1; omega
          have hAC3 : (A2.length : Int) + (C2.length : Int) ≤ 51 := by omega
          have HW2 := Lib.hid hw2
          clear hall2 hw2 HM HW5 HP5 HALL HLT HDT HFIT HFX
          go_upto_region 42 with fail
          go_cut [48, 153] from 48 to 214 (fun i c wx => i = .int .i64 k ∧ c = .bool false ∧ wx = wc)
          case first =>
            rcases hE with rfl | rfl | rfl | rfl
            all_goals (
              go_wp2_with fail
              go_meet
              exact ⟨rfl, rfl, rfl⟩)
          obtain ⟨rfl, rfl, rfl⟩ := hcut
          rcases hcase with ⟨f2, rfl, rfl⟩ | ⟨Y, m, rfl, hm, hsc, hoc, hlen⟩
          · have HDN := Lib.hid (w2_down HW2.out)
            have HLE := Lib.hid (w2_len HW2.out)
            have HFIN : Hid (SRel w B gl rm (k + 1) (.slice pA2 A2.length cA2) (.slice pC2 C2.length cC2) _) := ⟨A2, C2, _, _, ⟨HALL2.out, f2, rfl, rfl⟩, HW2.out⟩
            have hdn : (uD rm (recsL A2) (recsL C2) f2).dn = false := rfl
            rw [hdn] at HDN
            clear hdn HW2 HALL2
            · skip
              go_wp2_with fail
              refine HDN.out.mono ?_
              rintro y w6 ⟨rfl, rfl⟩
              go_wp2_with fail
              refine HLE.out.mono ?_
              rintro y w7 ⟨rfl, rfl⟩
              go_wp2_with fail
              refine ⟨⟨k + 1, gl, by omega, rfl, by go_num, HFIN⟩, ?_⟩
              simp [intOf]
              omega
          · have HDN := Lib.hid (w2_down HW2.out)
            have hdn : (nD rm (recsL A2) Y).dn = true := rfl
            rw [hdn] at HDN
            have HUP := Lib.hid (w2_up HW2.out (nD_fits HW2.out.ok))
            rw [up_down] at HUP
            have HMO := Lib.hid (mid_open (rm := rm) HALL2.out hm hsc hoc)
            have HAL := Lib.hid (HALL2.out.2.2)
            have HYL : Hid ((recsL A2 ++ Y).length ≤ 17100 * (k + 1)) := by
              show _ ≤ _
              rw [List.length_append]
              have := HAL.out
              omega
            have hk41 : k + 1 ≤ 41 := by omega
            have HTK : Hid ((A2 ++ C2).take (A2.length + m) = A2 ++ C2.take m) := by
              show _ = _
              rw [List.take_append]
              rw [List.take_of_length_le (by omega), Nat.add_sub_cancel_left]
            clear hdn hsc hoc hlen
            · skip
              go_wp2_with fail
              refine HDN.out.mono ?_
              rintro y w6 ⟨rfl, rfl⟩
              go_wp2_with fail
              refine HUP.out.mono ?_
              rintro y w7 ⟨rfl, hw7, _⟩
              have HOU := Lib.hid (open_up hw7.ok)
              have HOP := Lib.hid (w2_open hw7 (by rw [uD_all, List.append_nil]; have := HYL.out; omega) HOU.out.1)
              rw [HOU.out.2.1, HOU.out.2.2, HMO.out.1, HMO.out.2.1] at HOP
              have HVL := Lib.hid hw7.vlt
              clear hw7 HUP HDN HOU
              go_wp2_with fail
              refine HOP.out.mono ?_
              rintro y w8 ⟨gm, u8, rfl, hr8, hw8⟩
              obtain ⟨p8, c8, hv8⟩ := hr8.shape
              rw [HMO.out.2.1] at hv8
              subst hv8
              have HR8 := Lib.hid hr8
              have HW8 := Lib.hid hw8
              have HLE := Lib.hid (w2_len hw8)
              clear hr8 hw8 HOP
              have g1 : ¬ ((A2.length : Int) + (m : Int) < (A2.length : Int)) := by omega
              have g2 : ¬ ((A2.length : Int) + (C2.length : Int) < (A2.length : Int) + (m : Int)) := by omega
              go_wp2_with fail
              refine HLE.out.mono ?_
              rintro y w9 ⟨rfl, rfl⟩
              go_wp2_with (at_builtin; with_reducible refine stop_appendW (.tmp 203) (.tmp 204) 33 rfl ?_)
              refine w2_cat HW8.out rfl (.tmp 203) (.tmp 204) rfl rfl rfl (by omega) (A2.length + C2.length) rfl ?_
              intro p10 c10 w10 hw10 hs10 hk10
              have hcap := hw10.capA
              have hw11 := hw10.trunc (A2.length + m) (by omega)
              rw [HTK.out] at hw11
              have HR10 := Lib.hid (HR8.out.stays hs10 (fun b hb hl => hk10 b (fun e => by have := HVL.out b e; omega) hl))
              have HW11 := Lib.hid hw11
              clear hw10 hw11 hs10 hk10 HVL HR8 HW8 HLE
              have g3 : ((A2.length : Int) + (m : Int) ≤ (c10 : Int)) := by omega
              have HSM := Lib.hid (wsame_any w10 _ _ (A2 ++ C2.take m) HR10.out.ss HW11.out.sureR (by rw [HMO.out.2.1]; omega))
              go_wp2_with fail
              refine HSM.out.mono ?_
              rintro y w12 ⟨rfl, hb12⟩
              have HFIN : Hid (SRel w B gm rm (k + 1) (.slice p10 (A2.length + m) c10) (.slice none 0 0) w12) := ⟨_, [], _, _, HMO.out.2.2, by rw [HMO.out.2.1]; exact (HW11.out.dropC).kept hb12⟩
              clear hb12 HSM HW11 HR10
              go_wp2_with fail
              refine ⟨⟨k + 1, gm, by omega, rfl, by go_num, HFIN⟩, ?_⟩
              simp [intOf]
              omega
    · have hle : (n : Int) ≤ (k : Int) := by omega
      obtain ⟨A, C, d, m, hinv, hws⟩ := HK.out
      have HB := Lib.hid hws.bel
      clear HK hinv hws
      go_wp2_with fail
      go_ret
      exact ⟨rfl, HB.out⟩
end Go.Proofs.Ytjbhcdmeeakdcaa
