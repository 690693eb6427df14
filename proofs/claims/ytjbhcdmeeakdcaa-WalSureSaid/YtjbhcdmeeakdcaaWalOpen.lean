/- wal.Open by contract. -/
import Derived.Test.YtjbhcdmeeakdcaaWal
namespace Go.Proofs.Ytjbhcdmeeakdcaa
open Go.RowKit
def addP (P : Nat → Prop) (gl : Nat) : Nat → Prop := fun b => P b ∨ b = gl
def opK (d : DSt) : Nat := scN d.all
def op1E (d : DSt) : Int := if opK d < d.all.length then d.renewE (opK d) else 0
def op1D (d : DSt) : DSt := if opK d < d.all.length then d.renewD (d.all.take (opK d)) else d
def openE (d : DSt) : Int := if d.dn = true then 60 else if op1E d = 0 then (op1D d).syncE else op1E d
def openD (d : DSt) : DSt := if d.dn = true then d else if op1E d = 0 then (op1D d).syncD else op1D d
theorem scN_le {l : List Int} (ho : Oct l) : scN l ≤ l.length := by
  suffices h : ∀ n (l : List Int), l.length ≤ n → Oct l → scN l ≤ l.length from h l.length l (Nat.le_refl _) ho
  intro n
  induction n with
  | zero =>
    intro l hl ho
    have := (sc_short (l := l) (by omega)).2
    omega
  | succ n ih =>
    intro l hl ho
    by_cases he : frE l = 0
    · have hk := frE_ok ho he
      have h := (sc_yes ho he).2
      have hi := ih (l.drop (frN l).toNat) (by rw [List.length_drop]; omega) (ho.drop _)
      rw [List.length_drop] at hi
      omega
    · have := (sc_no he).2
      omega
theorem own_cap {w : World} {base n c : Nat} {e : TypeId} {p : Option Addr} {zs : List Int} (h : Own .u8 w base e (.slice p n c) zs) (_ : zs.length = n) : n ≤ c := by
  rcases h.2 with ⟨hv, hl⟩ | ⟨g, cap, cur, hv, _, _, hn, _⟩
  · cases hv; omega
  · cases hv; omega
theorem own_take_at {w : World} {base n c K g : Nat} {e : TypeId} {p : Option Addr} {zs : List Int} (h : Own .u8 w base e (.slice p n c) zs) (hz : zs.length = n) (hK : K ≤ n) (hg : g < base) : ∃ g0, g0 ≠ g ∧ RowAt .u8 w g0 (.slice p K c) (zs.take K) := by
  have hz' := hz
  subst hz'
  obtain ⟨g0, h1, _, h3⟩ := (h.trunc K hK).rowAt
  exact ⟨g0, by omega, h3⟩
/-- A slice of byte slices, all of whose blocks are from F on. -/
def RowSF (F : Nat) (w : World) (v : Value) (dss : List (List Int)) : Prop :=
  ∃ p c, v = .slice p dss.length c ∧ dss.length ≤ c ∧ (dss = [] ∨ ∃ b o, p = some ⟨b, o, none⟩ ∧ F ≤ b ∧ ∀ i, i < dss.length → ∃ u g0, w.cell? ⟨b, o + i, none⟩ = some u ∧ RowAt .u8 w g0 u (dss.getD i []) ∧ (dss.getD i [] = [] ∨ (F ≤ g0 ∧ g0 < w.heap.size)))
theorem RowSF.ss {F : Nat} {w : World} {v : Value} {dss : List (List Int)} (h : RowSF F w v dss) : RowSS w v dss := by
  obtain ⟨p, c, h1, h2, h3⟩ := h
  refine ⟨p, c, h1, h2, ?_⟩
  rcases h3 with h3 | ⟨b, o, h4, _, h5⟩
  · exact .inl h3
  · exact .inr ⟨b, o, h4, fun i hi => by obtain ⟨u, g0, e1, e2, _⟩ := h5 i hi; exact ⟨u, e1, e2.row⟩⟩
theorem RowSF.shape {F : Nat} {w : World} {v : Value} {dss : List (List Int)} (h : RowSF F w v dss) : ∃ p c, v = .slice p dss.length c := h.ss.shape
theorem RowSF.mono {F F' : Nat} {w : World} {v : Value} {dss : List (List Int)} (h : RowSF F w v dss) (hF : F' ≤ F) : RowSF F' w v dss := by
  obtain ⟨p, c, h1, h2, h3⟩ := h
  refine ⟨p, c, h1, h2, ?_⟩
  rcases h3 with h3 | ⟨b, o, h4, h6, h5⟩
  · exact .inl h3
  · exact .inr ⟨b, o, h4, by omega, fun i hi => by obtain ⟨u, g0, e1, e2, e3⟩ := h5 i hi; exact ⟨u, g0, e1, e2, e3.imp_right (fun e => ⟨by omega, e.2⟩)⟩⟩
/-- Where no block from F on changes it stays. -/
theorem RowSF.stays {F : Nat} {w w' : World} {v : Value} {dss : List (List Int)} (h : RowSF F w v dss) (hs : w.heap.size ≤ w'.heap.size) (hk : ∀ b, F ≤ b → b < w.heap.size → w'.heap[b]? = w.heap[b]?) : RowSF F w' v dss := by
  obtain ⟨p, c, h1, h2, h3⟩ := h
  refine ⟨p, c, h1, h2, ?_⟩
  rcases h3 with h3 | ⟨b, o, h4, h6, h5⟩
  · exact .inl h3
  · refine .inr ⟨b, o, h4, h6, fun i hi => ?_⟩
    obtain ⟨u, g0, e1, e2, e3⟩ := h5 i hi
    have hbl := World.block_lt_of_cell? w _ e1
    refine ⟨u, g0, (World.cell?_of_block (hk b h6 hbl)).trans e1, ?_, e3.imp_right (fun e => ⟨e.1, by omega⟩)⟩
    rcases e3 with e3 | ⟨e3, e4⟩
    · exact e2.keep0 (.inl e3)
    · exact e2.keep0 (.inr (hk g0 e3 e4))
theorem RowSF.kept {F : Nat} {w w' : World} {v : Value} {dss : List (List Int)} (h : RowSF F w v dss) (hb : Below w.heap.size w w') : RowSF F w' v dss := h.stays hb.size (fun b _ hl => hb.block b hl)
/-- A slice of records whose blocks are of P stays where nothing of P changes. -/
theorem OwnSB.belowP {P : Nat → Prop} {w w' : World} {base B : Nat} {e : TypeId} {v : Value} {dss : List (List Int)} (h : OwnSB w base e v dss) (hP : ∀ b, base ≤ b → b < w.heap.size → P b) (hb : BelowP P B w w') : RowSF base w' v dss := by
  obtain ⟨vs, h1, h2, h3⟩ := h
  obtain ⟨p, c, hv⟩ := h1.form
  by_cases h0 : dss = []
  · subst h0
    have : vs.length = 0 := h2
    rw [this] at hv
    rcases h1.2 with ⟨hv', _⟩ | ⟨g, cap, cur, hv', _, _, hn, _⟩
    · exact ⟨none, 0, hv', Nat.le_refl _, .inl rfl⟩
    · exact ⟨some ⟨g, 0, none⟩, cap, by rw [hv', this]; rfl, Nat.zero_le _, .inl rfl⟩
  · have hpos : 0 < dss.length := List.length_pos_iff.2 h0
    subst hv
    obtain ⟨g, rfl⟩ := h1.some_ (by omega)
    have hc : vs.length ≤ c := by
      rcases h1.2 with ⟨hv', hl⟩ | ⟨g, cap, cur, hv', _, _, hn, _⟩
      · omega
      · cases hv'; exact hn
    have hgb := h1.block_ge g rfl
    have hgl := h1.lt g rfl
    refine ⟨_, c, by rw [h2], by omega, .inr ⟨g, 0, rfl, hgb, fun i hi => ?_⟩⟩
    obtain ⟨g0, h4, h5⟩ := h3 i hi
    refine ⟨vs.getD i undef, g0, ?_, ?_, ?_⟩
    · rw [Nat.zero_add]
      exact (World.cell?_of_block (hb.2 g (hP g hgb hgl) hgl)).trans (h1.cell i (by omega)).2
    · rcases h5 with h5 | ⟨h5, _, h7⟩
      · exact h4.keep0 (.inl h5)
      · exact h4.keep0 (.inr (hb.2 g0 (hP g0 h7 h5) h5))
    · exact h5.imp_right (fun e => ⟨e.2.2, Nat.lt_of_lt_of_le e.1 hb.1.size⟩)
def OpenPost (P : Nat → Prop) (w : World) (base g : Nat) (d : DSt) (x : Ending) (w' : World) : Prop :=
  (openE d ≠ 0 → x = .returned (.tuple #[.pointer none, .slice none 0 0, .int .i64 (openE d)]) ∧ Dkp P w' base g (openD d) ∧ BelowP P base w w') ∧
  (openE d = 0 → ∃ gl v, x = .returned (.tuple #[.pointer (some ⟨gl, 0, none⟩), v, .int .i64 0]) ∧ w.heap.size ≤ gl ∧ LogB w' gl g (scD d.all).length ∧ RowSF w.heap.size w' v (scD d.all) ∧ Dkp (addP P gl) w' base g (openD d) ∧ BelowP P base w w')
theorem Dkp.lt_P {P : Nat → Prop} {w : World} {base g : Nat} {d : DSt} (h : Dkp P w base g d) (b : Nat) (hb : P b) : b < w.heap.size := by
  obtain ⟨_, _, _, _, _, _, _, _, _, _, h9⟩ := h
  exact h9.2.2.2 b hb
theorem Dkp.base_le {P : Nat → Prop} {w : World} {base g : Nat} {d : DSt} (h : Dkp P w base g d) : base ≤ g := by
  obtain ⟨_, _, _, _, _, _, _, _, h7, _⟩ := h
  exact h7
theorem open_end {n : Nat} {P Q : Nat → Prop} {w w4 : World} {base g : Nat} {d d' : DSt} {v : Value} (hD : openD d = d') (hE : openE d = 0) (hQ : ∀ b, P b → Q b) (hk : Dkp Q w4 base g d') (hb : BelowP P base w w4) (hr : RowSF w.heap.size w4 v (scD d.all)) (hn : (scD d.all).length = n) :
    OpenPost P w base g d (.returned (.tuple #[.pointer (some ⟨w4.heap.size, 0, none⟩), v, .int .i64 0])) (w4.alloc (.cells #[.pointer (some ⟨g, 0, none⟩), .int .i64 (n : Nat)] 69)) := by
  refine ⟨fun h => absurd hE h, fun _ => ⟨w4.heap.size, v, rfl, hb.1.size, ?_, hr.kept (oneB w4 _), ?_, hb.trans (BelowP.of (oneB w4 _) (Nat.le_trans ?_ (Nat.le_refl _)))⟩⟩
  · rw [hn]; exact Blk.new w4 _ _
  · rw [hD]
    refine (hk.weak hQ).later (oneB w4 _) (fun b hb => hb.imp_right (fun e => Nat.le_of_eq e.symm)) (fun b hb => ?_)
    rcases hb with hb | hb
    · have h4 := (hk.weak hQ).lt_P b hb
      exact Nat.lt_of_lt_of_le h4 (oneB w4 _).size
    · subst hb; simp
  · have := hk.dk.lt
    have := hk.base_le
    omega
set_option linter.unusedSimpArgs false in
set_option maxHeartbeats 4000000 in
set_option maxRecDepth 100000 in
theorem wopen_any (P : Nat → Prop) (w : World) (base g : Nat) (d : DSt) (h : Dkp P w base g d) (hl : d.all.length ≤ 1000000) :
    Calls Try.prog 13 #[.pointer (some ⟨g, 0, none⟩)] w (OpenPost P w base g d) := by
  have HRD := Lib.hid (dread_any w base g d h.dk)
  have HD := Lib.hid h
  have hok : d.Ok := by obtain ⟨_, _, _, _, _, _, _, _, _, h, _⟩ := h; exact h
  have HOA := Lib.hid (all_oct hok)
  have hbs : base ≤ w.heap.size := Nat.le_trans h.base_le (Nat.le_of_lt h.dk.lt)
  have hgw : g < w.heap.size := h.dk.lt
  clear h hok
  by_cases hdn : d.dn = true
  · have hE : openE d = 60 := if_pos hdn
    have hD : openD d = d := if_pos hdn
    have hRE : d.readE = 60 := if_pos hdn
    have hRD : d.readD = [] := if_pos hdn
    rw [hRE, hRD] at HRD
    have HOE := Lib.hid hE
    have HOD := Lib.hid hD
    clear hE hD hRE hRD hdn
    go_enter Try.func13, Try.ntmps13
    go_wp2_with fail
    refine HRD.out.mono ?_
    rintro y w1 ⟨v1, rfl, _, _, hb1⟩
    have HB1 := Lib.hid hb1
    clear hb1
    go_wp2_with fail
    go_ret3
    refine ⟨fun _ => ⟨by rw [HOE.out]; rfl, by rw [HOD.out]; exact HD.out.kept HB1.out, BelowP.of HB1.out hbs⟩, fun h0 => ?_⟩
    rw [HOE.out] at h0
    cases h0
  · have hRE : d.readE = 0 := if_neg hdn
    have hRD : d.readD = d.all := if_neg hdn
    rw [hRE, hRD] at HRD
    have HOE : Hid (openE d = if op1E d = 0 then (op1D d).syncE else op1E d) := if_neg hdn
    have HOD : Hid (openD d = if op1E d = 0 then (op1D d).syncD else op1D d) := if_neg hdn
    have HO1 : Hid (op1E d = if opK d < d.all.length then d.renewE (opK d) else 0) := rfl
    have HD1 : Hid (op1D d = if opK d < d.all.length then d.renewD (d.all.take (opK d)) else d) := rfl
    have hK : opK d = scN d.all := rfl
    have HKL : Hid (scN d.all ≤ d.all.length) := scN_le HOA.out
    have HSD := Lib.hid (fun (W : World) (v : Value) (h : Row .u8 W v d.all) => fscanB_any v d.all HOA.out hl W h)
    have HDL : Hid (d.all.length ≤ 1000000) := hl
    rw [hK] at HO1 HD1
    clear hK hRE hRD hdn hl
    go_enter Try.func13, Try.ntmps13
    go_wp2_with fail
    refine HRD.out.mono ?_
    rintro y w1 ⟨v1, rfl, ho1, _, hb1⟩
    obtain ⟨p1, c1, hv1⟩ := ho1.form
    generalize hN : d.all.length = N at *
    have HN := Lib.hid hN
    clear hN
    subst hv1
    have HO := Lib.hid ho1
    have HB1 := Lib.hid hb1
    have HS := Lib.hid (HSD.out w1 _ ho1.row)
    clear ho1 hb1 HRD HSD
    go_wp2_with fail
    refine HS.out.mono ?_
    rintro y w2 ⟨v2, rfl, ho2, hb2⟩
    obtain ⟨p2, c2, hv2⟩ := ho2.form
    generalize hL : (scD d.all).length = L at *
    have HL := Lib.hid hL
    clear hL
    subst hv2
    have hb12 := HB1.out.trans (hb2.mono HB1.out.size)
    have HDS := Lib.hid (HD.out.since hb12)
    have HPS : Hid (∀ b, w1.heap.size ≤ b → b < w2.heap.size → since P w w2 b) := fun b h1 h2 => .inr ⟨Nat.le_trans HB1.out.size h1, h2⟩
    have HO2 := Lib.hid ho2
    have HOX := Lib.hid (HO.out.later hb2)
    have HB12 := Lib.hid hb12
    clear ho2 hb2 hb12 HS HO
    generalize hK : scN d.all = K at *
    have HK := Lib.hid hK
    clear hK
    by_cases hlt : K < N
    · have hltI : (K : Int) < (N : Int) := by omega
      rw [if_pos hlt] at HO1 HD1
      have HW := Lib.hid (renew_anyP (since P w w2) w2 base g d (.slice p1 K c1) (d.all.take K) HDS.out (HOA.out.take K) (own_take_at HOX.out HN.out (Nat.le_of_lt hlt) hgw))
      rw [show (d.all.take K).length = K by rw [List.length_take, HN.out]; omega] at HW
      have hk0 : (0 : Int) ≤ (K : Int) := by omega
      have hkN : (K : Int) ≤ (N : Int) := by omega
      have hKc : (K : Int) ≤ (c1 : Int) := by have := own_cap HOX.out HN.out; omega
      clear hlt
      go_wp2_with fail
      refine HW.out.mono ?_
      rintro y w3 ⟨rfl, hd3, hb3⟩
      by_cases he : d.renewE K = 0
      · rw [he] at HO1 ⊢
        rw [if_pos HO1.out, HD1.out] at HOE HOD
        have HY := Lib.hid (sync_anyP (since P w w2) w3 base g _ hd3)
        have HB3 := Lib.hid hb3
        generalize hD1 : d.renewD (d.all.take K) = d1 at *
        generalize hSE : d1.syncE = se at *
        have HOX2 := HOE
        clear hd3 hb3 he hD1 hSE HW
        go_wp2_with fail
        refine HY.out.mono ?_
        rintro y w4 ⟨rfl, hd4, hb4⟩
        have HD4 := Lib.hid hd4
        have HB4 := Lib.hid (HB3.out.trans hb4)
        clear hd4 hb4
        by_cases h0 : se = 0
        · subst h0
          go_wp2_with fail
          go_ret3
          exact open_end HOD.out HOE.out (fun b hb => .inl hb) HD4.out ((BelowP.of HB12.out hbs).trans (HB4.out.weak (fun b hb => .inl hb))) ((HO2.out.belowP HPS.out HB4.out).mono HB1.out.size) HL.out
        · have h0b : (se != 0) = true := by simpa using h0
          have HNE := Lib.hid h0
          clear h0
          go_wp2_with fail
          go_ret3
          exact ⟨fun _ => ⟨by rw [HOE.out]; rfl, by rw [HOD.out]; exact HD4.out.weak (fun b hb => .inl hb), (BelowP.of HB12.out hbs).trans (HB4.out.weak (fun b hb => .inl hb))⟩, fun h => absurd (HOE.out.symm.trans h) HNE.out⟩
      · have heb : (d.renewE K == 0) = false := by simpa using he
        have heb2 : (d.renewE K != 0) = true := by simpa using he
        rw [if_neg (by rw [HO1.out]; exact he), HO1.out] at HOE
        rw [if_neg (by rw [HO1.out]; exact he), HD1.out] at HOD
        have HNE := Lib.hid he
        have HD3 := Lib.hid hd3
        have HB3 := Lib.hid hb3
        generalize d.renewE K = re at *
        clear hd3 hb3 he HW
        go_wp2_with fail
        go_ret3
        exact ⟨fun _ => ⟨by rw [HOE.out]; rfl, by rw [HOD.out]; exact HD3.out.weak (fun b hb => .inl hb), (BelowP.of HB12.out hbs).trans (HB3.out.weak (fun b hb => .inl hb))⟩, fun h => absurd (HOE.out.symm.trans h) HNE.out⟩
    · have hltI : ¬ (K : Int) < (N : Int) := by omega
      rw [if_neg hlt] at HO1 HD1
      rw [if_pos HO1.out, HD1.out] at HOE HOD
      have HY := Lib.hid (sync_anyP (since P w w2) w2 base g _ HDS.out)
      generalize hSE : d.syncE = se at *
      clear hlt hSE
      go_wp2_with fail
      refine HY.out.mono ?_
      rintro y w4 ⟨rfl, hd4, hb4⟩
      have HD4 := Lib.hid hd4
      have HB4 := Lib.hid hb4
      clear hd4 hb4
      by_cases h0 : se = 0
      · subst h0
        go_wp2_with fail
        go_ret3
        exact open_end HOD.out HOE.out (fun b hb => .inl hb) HD4.out ((BelowP.of HB12.out hbs).trans (HB4.out.weak (fun b hb => .inl hb))) ((HO2.out.belowP HPS.out HB4.out).mono HB1.out.size) HL.out
      · have h0b : (se != 0) = true := by simpa using h0
        have HNE := Lib.hid h0
        clear h0
        go_wp2_with fail
        go_ret3
        exact ⟨fun _ => ⟨by rw [HOE.out]; rfl, by rw [HOD.out]; exact HD4.out.weak (fun b hb => .inl hb), (BelowP.of HB12.out hbs).trans (HB4.out.weak (fun b hb => .inl hb))⟩, fun h => absurd (HOE.out.symm.trans h) HNE.out⟩
end Go.Proofs.Ytjbhcdmeeakdcaa
