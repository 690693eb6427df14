/- WalTwice: the walk. -/
import Derived.Test.YtjbhcdmeeakdcaaWalSame
import Derived.Test.YtjbhcdmeeakdcaaWalPure
import Derived.Test.YtjbhcdmeeakdcaaRefScan
import Derived.Deep.RegionHeld3
namespace Go.Proofs.Ytjbhcdmeeakdcaa
open Go.RowKit
theorem t_calm (zs : List Int) (hl : zs.length ≤ 3000) : (newD 5000).writeD zs = ⟨5000, [], zs, false, false, -1⟩ := by
  have h := calm_write (d := newD 5000) ⟨rfl, rfl⟩ (zs := zs) (by show ¬ ((5000 : Nat) : Int) - (([] : List Int).length : Int) - (([] : List Int).length : Int) < zs.length; simp only [List.length_nil]; omega)
  rw [h.2]
  rfl
set_option linter.unusedSimpArgs false in
set_option maxHeartbeats 8000000 in
set_option maxRecDepth 100000 in
theorem wtwice_walk (v : Value) (zs : List Int) (w : World) (ho : Oct zs) (hr : Row .u8 w v zs) (_ : zs.length ≤ 140737488355328) : Calls Try.prog 4 #[v] w fun e w' => e = .returned (.bool true) ∧ Below w.heap.size w w' := by
  have HL := Lib.hid (fun w => logs_any w)
  obtain ⟨pv, cv, rfl⟩ := hr.shape
  have HR := Lib.hid hr
  have HO := Lib.hid ho
  clear hr ho
  by_cases hb : 3000 < zs.length
  · have hb' : (3000 : Int) < (zs.length : Int) := by omega
    generalize zs.length = n at *
    go_enter Try.func4, Try.ntmps4
    go_wp2_with fail
    refine (HL.out _).mono ?_
    rintro y w1 ⟨rfl, hb1⟩
    go_wp2_with fail
    go_ret
    exact ⟨rfl, hb1⟩
  have hb' : ¬ (3000 : Int) < (zs.length : Int) := by omega
  have HLE : Hid (zs.length ≤ 3000) := by show _ ≤ _; omega
  have HIS : Hid (intsOf (strOfNums zs) = zs) := intsOf_str HO.out
  have HKN : Hid (scN zs ≤ zs.length) := scN_le HO.out
  have HD1 := Lib.hid (t_calm zs HLE.out)
  have HOK1 : Hid ((⟨5000, [], zs, false, false, -1⟩ : DSt).Ok) := by
    have h := write_ok (new_ok (room := 5000) (by decide)) HO.out
    rw [HD1.out] at h
    exact h
  have HO1 := Lib.hid (calm_open (d := ⟨5000, [], zs, false, false, -1⟩) ⟨rfl, rfl⟩ HOK1.out)
  have HALL : Hid ((⟨5000, [], zs, false, false, -1⟩ : DSt).all = zs) := rfl
  rw [HALL.out] at HO1
  have HALL2 : Hid ((⟨5000, zs.take (scN zs), [], false, false, -1⟩ : DSt).all = zs.take (scN zs)) := by show _ = _; simp [DSt.all, DSt.ahead]
  have HST := Lib.hid (sc_take HO.out)
  have HSC := Lib.hid (fun (w : World) => refscan_any (strOfNums zs) (by rw [strOfNums_size]; have := HLE.out; omega) w)
  rw [HIS.out] at HSC
  have HSL : Hid ((scD zs).length ≤ 100000) := by
    have h := scD_le HO.out
    show _ ≤ _
    have := HLE.out
    omega
  have K1 := Lib.hid (fun (W : World) (h : Below w.heap.size w W) => conv_row (P := Try.prog) W 34 9 5 Try.underlying34 Try.underlying5 Try.underlying9 _ _ (HR.out.kept h))
  generalize hn : zs.length = n at *
  have HN := Lib.hid hn
  clear hn hb
  go_enter Try.func4, Try.ntmps4
  go_wp2_with fail
  refine (HL.out _).mono ?_
  rintro y w1 ⟨rfl, hb1⟩
  have B1 := Lib.hid hb1
  have k1 := K1.out w1 hb1
  clear hb1 HL
  go_wp2_with fail
  refine (HSC.out w1).mono ?_
  rintro y w2 ⟨v2, rfl, ho2, hb2⟩
  have hs2 : StrR w2 v2 (scD zs) := OwnV.strR ho2
  obtain ⟨p2, c2, rfl⟩ := hs2.shape
  have ST2 := Lib.hid hs2
  have B2 := Lib.hid (B1.out.trans (hb2.mono B1.out.size))
  clear hs2 ho2 hb2 k1 HSC
  go_wp2_with fail
  refine (new_any 5000 w2).mono ?_
  rintro y w3 ⟨hb3, _, hk3⟩
  obtain ⟨rfl, hd3⟩ := hk3 (by decide)
  have D3 : Hid (Dkp none_ w3 w2.heap.size w2.heap.size (newD 5000)) := hd3.dkp
  have C3 := Lib.hid hb3
  have B3 := Lib.hid (B2.out.trans (hb3.mono B2.out.size))
  clear hb3 hk3 hd3
  go_wp2_with fail
  refine (write_anyP none_ w3 w2.heap.size w2.heap.size (newD 5000) (.slice pv n cv) zs D3.out HO.out (rowFarB HR.out B3.out w2.heap.size B2.out.size)).mono ?_
  rintro y w4 ⟨rfl, hd4, hb4⟩
  rw [HD1.out] at hd4
  have D4 := Lib.hid hd4
  have C4 := Lib.hid (C3.out.trans hb4.1)
  clear hd4 hb4
  go_wp2_with fail
  refine (wopen_any none_ w4 w2.heap.size w2.heap.size _ D4.out (by rw [HALL.out, HN.out]; have := HLE.out; omega)).mono ?_
  rintro y w5 ⟨_, h0⟩
  obtain ⟨gl, v5, rfl, hgl, hl5, hr5, hd5, hb5⟩ := h0 HO1.out.1
  rw [HO1.out.2] at hd5
  rw [HALL.out] at hl5 hr5
  obtain ⟨p5, c5, rfl⟩ := hr5.shape
  have R5 := Lib.hid hr5
  have D5 := Lib.hid hd5
  have L5 := Lib.hid hl5
  have C5 := Lib.hid (C4.out.trans hb5.1)
  have HSA := Lib.hid (wsame_any w5 _ _ (scD zs) hr5 (ST2.out.kept C5.out) HSL.out)
  have PG : Hid (addP none_ gl gl) := .inr rfl
  generalize hln : (scD zs).length = ln at *
  have HLN := Lib.hid hln
  clear h0 hgl hl5 hr5 hd5 hb5 hln
  go_wp2_with fail
  refine HSA.out.mono ?_
  rintro y w6 ⟨rfl, hb6⟩
  have D6 := Lib.hid (D5.out.kept hb6)
  have C6 := Lib.hid (C5.out.trans (hb6.mono C5.out.size))
  have HLE6 := Lib.hid (wlen_any w6 gl w2.heap.size ln (L5.out.kept hb6))
  clear hb6
  go_wp2_with fail
  refine HLE6.out.mono ?_
  rintro y w7 ⟨rfl, rfl⟩
  go_wp2_with fail
  have hRD : (⟨5000, zs.take (scN zs), [], false, false, -1⟩ : DSt).readD = zs.take (scN zs) := HALL2.out
  have hRE : (⟨5000, zs.take (scN zs), [], false, false, -1⟩ : DSt).readE = 0 := rfl
  have HRD := Lib.hid (dread_any w6 w2.heap.size w2.heap.size _ D6.out.dk)
  rw [hRD, hRE] at HRD
  clear hRD hRE
  refine HRD.out.mono ?_
  rintro y w7 ⟨v7, rfl, ho7, _, hb7⟩
  obtain ⟨p7, c7, hv7⟩ := ho7.form
  generalize hkn : (zs.take (scN zs)).length = kn at hv7
  subst hv7
  have D7 := Lib.hid (D6.out.since hb7)
  have C7 := Lib.hid (C6.out.trans (hb7.mono C6.out.size))
  have O7 := Lib.hid ho7
  have HP7 : Hid (∀ b, w6.heap.size ≤ b → b < w7.heap.size → since (addP none_ gl) w6 w7 b) := fun b h1 h2 => .inr ⟨h1, h2⟩
  have HKK : Hid (kn = scN zs) := by show _ = _; rw [← hkn, List.length_take, HN.out]; have := HKN.out; omega
  clear ho7 hb7 hkn
  have HO2 := Lib.hid (calm_open (d := ⟨5000, zs.take (scN zs), [], false, false, -1⟩) ⟨rfl, rfl⟩ (by obtain ⟨_, _, _, _, _, _, _, _, _, h, _⟩ := D7.out; exact h))
  rw [HALL2.out, HST.out.2, List.take_take, Nat.min_self] at HO2
  generalize since (addP none_ gl) w6 w7 = P7 at *
  go_wp2_with fail
  refine (wopen_any P7 w7 w2.heap.size w2.heap.size _ D7.out (by rw [HALL2.out, List.length_take, HN.out]; have := HLE.out; omega)).mono ?_
  rintro y w8 ⟨_, h0⟩
  obtain ⟨gm, v8, rfl, hgm, hl8, hr8, hd8, hb8⟩ := h0 HO2.out.1
  rw [HO2.out.2] at hd8
  rw [HALL2.out, HST.out.1] at hr8
  obtain ⟨p8, c8, hv8⟩ := hr8.shape
  rw [HLN.out] at hv8
  subst hv8
  have R8 := Lib.hid hr8
  have D8 := Lib.hid hd8
  have C8 := Lib.hid (C7.out.trans hb8.1)
  have O8 := Lib.hid (own_belowP O7.out HP7.out hb8)
  clear h0 hgm hl8 hr8 hd8 hb8
  have hRD : (⟨5000, zs.take (scN zs), [], false, false, -1⟩ : DSt).readD = zs.take (scN zs) := HALL2.out
  have hRE : (⟨5000, zs.take (scN zs), [], false, false, -1⟩ : DSt).readE = 0 := rfl
  have HRD2 := Lib.hid (dread_any w8 w2.heap.size w2.heap.size _ D8.out.dk)
  rw [hRD, hRE] at HRD2
  clear hRD hRE
  go_wp2_with fail
  refine HRD2.out.mono ?_
  rintro y w9 ⟨v9, rfl, ho9, hd9, hb9⟩
  obtain ⟨p9, c9, hv9⟩ := ho9.form
  generalize hkn : (zs.take (scN zs)).length = kn2 at hv9
  subst hv9
  have HKK2 : Hid (kn2 = scN zs) := by show _ = _; rw [← hkn, List.length_take, HN.out]; have := HKN.out; omega
  have C9 := Lib.hid (C8.out.trans (hb9.mono C8.out.size))
  have hrl : ∀ w', Below w9.heap.size w9 w' → Row .u8 w' (.slice p7 kn c7) (zs.take (scN zs)) := fun w' h => (O8.out.row.kept hb9).kept h
  have hra : ∀ w', Below w9.heap.size w9 w' → Row .u8 w' (.slice p9 kn2 c9) (zs.take (scN zs)) := fun w' h => ho9.row.kept h
  have hrb : ∀ w', Below w9.heap.size w9 w' → Row .u8 w' (.slice pv (scN zs) cv) (zs.take (scN zs)) := fun w' h => rowTake (HR.out.kept (((B2.out.trans (C9.out.mono B2.out.size)).trans (h.mono (B2.out.trans (C9.out.mono B2.out.size)).size)))) (scN zs) (by rw [HN.out]; exact HKN.out)
  have hbw := B2.out.trans (C9.out.mono B2.out.size)
  have BW9 := Lib.hid hbw
  have hss := ST2.out.kept C9.out
  have ST9 := Lib.hid hss
  have R9 := Lib.hid (R8.out.kept hb9)
  have D9 := Lib.hid hd9
  have hkc : scN zs ≤ cv := by
    obtain ⟨_, _, e, hc, _⟩ := HR.out
    cases e
    have := HKN.out; have := HN.out; omega
  have HTL : Hid ((zs.take (scN zs)).length = scN zs) := by show _ = _; rw [List.length_take, HN.out]; have := HKN.out; omega
  have hk1 := HKK.out
  have hk2 := HKK2.out
  clear ho9 hd9 hb9 hkn hbw hss HKK HKK2
  subst hk1
  subst hk2
  have HCV := Lib.hid (fun (w' : World) (h : Below w9.heap.size w9 w') => And.intro (conv_row (P := Try.prog) w' 34 9 5 Try.underlying34 Try.underlying5 Try.underlying9 _ _ (hrl w' h)) (And.intro (conv_row (P := Try.prog) w' 34 9 5 Try.underlying34 Try.underlying5 Try.underlying9 _ _ (hrb w' h)) (conv_row (P := Try.prog) w' 34 9 5 Try.underlying34 Try.underlying5 Try.underlying9 _ _ (hra w' h))))
  have HSU := Lib.hid (fun (w' : World) (h : Below w9.heap.size w9 w') => sure_any w' w2.heap.size w2.heap.size _ (D9.out.later h))
  dsimp only at HSU
  rw [HTL.out] at HSU
  have HSA9 := Lib.hid (wsame_any w9.drew _ _ (scD zs) (R9.out.kept (Below.refl _ w9).drew) (ST9.out.kept (Below.refl _ w9).drew) (by rw [HLN.out]; exact HSL.out))
  clear hrl hra hrb
  generalize strOfNums (zs.take (scN zs)) = str at *
  generalize scN zs = K at *
  have hkI : (0 : Int) ≤ (K : Int) := by omega
  have hkcI : (K : Int) ≤ (cv : Int) := by omega
  go_wp2_with fail
  have hs0 := HCV.out w9.drew (Below.refl _ w9).drew
  refine wp_region_held_drew (S := fun w' => (convert 34 9 (.slice p7 K c7)).run Try.prog w' = .ok (.string str) w' ∧ (convert 34 9 (.slice pv K cv)).run Try.prog w' = .ok (.string str) w' ∧ (convert 34 9 (.slice p9 K c9)).run Try.prog w' = .ok (.string str) w') (by kernel_rfl) hs0 (fun hS0 => ?_)
  refine wpAnyH_take (i := 0) (v := ?_) rfl (by kernel_rfl) (by kernel_rfl) (by kernel_rfl) (fun _ _ _ h => h) (Or.inl ⟨by kernel_rfl, ?_⟩) (by first | assumption | trivial) ?_
  rotate_left
  · intro w hSw
    try dsimp only at hSw
    first | (go_simp; done) | (go_simp; with_reducible rfl)
  try simp only [Act.put, List.getElem_toArray, List.getElem_cons_succ, List.getElem_cons_zero, List.setIfInBounds_toArray, List.set_cons_zero, List.set_cons_succ]
  refine wpAnyH_take (i := 1) (v := ?_) rfl (by kernel_rfl) (by kernel_rfl) (by kernel_rfl) (fun _ _ _ h => h) (Or.inl ⟨by kernel_rfl, ?_⟩) (by first | assumption | trivial) ?_
  rotate_left
  · intro w hSw
    try dsimp only at hSw
    first | (go_simp; done) | (go_simp; with_reducible rfl)
  try simp only [Act.put, List.getElem_toArray, List.getElem_cons_succ, List.getElem_cons_zero, List.setIfInBounds_toArray, List.set_cons_zero, List.set_cons_succ]
  refine wpAnyH_take (i := 2) (v := ?_) rfl (by kernel_rfl) (by kernel_rfl) (by kernel_rfl) (fun _ _ _ h => h) (Or.inl ⟨by kernel_rfl, ?_⟩) (by first | assumption | trivial) ?_
  rotate_left
  · intro w hSw
    try dsimp only at hSw
    first | (go_simp; done) | (go_simp; with_reducible rfl)
  try simp only [Act.put, List.getElem_toArray, List.getElem_cons_succ, List.getElem_cons_zero, List.setIfInBounds_toArray, List.set_cons_zero, List.set_cons_succ]
  refine wpAnyH_take (i := 3) (v := ?_) rfl (by kernel_rfl) (by kernel_rfl) (by kernel_rfl) (fun _ _ _ h => h) (Or.inl ⟨by kernel_rfl, ?_⟩) (by first | assumption | trivial) ?_
  rotate_left
  · intro w hSw
    try dsimp only at hSw
    first | (go_simp; done) | (go_simp; with_reducible rfl)
  try simp only [Act.put, List.getElem_toArray, List.getElem_cons_succ, List.getElem_cons_zero, List.setIfInBounds_toArray, List.set_cons_zero, List.set_cons_succ]
  refine wpAnyH_take (i := 4) (v := ?_) rfl (by kernel_rfl) (by kernel_rfl) (by kernel_rfl) (fun _ _ _ h => h) (Or.inl ⟨by kernel_rfl, ?_⟩) (by first | assumption | trivial) ?_
  rotate_left
  · intro w hSw
    try dsimp only at hSw
    first | (go_simp; done) | (go_simp; with_reducible rfl)
  try simp only [Act.put, List.getElem_toArray, List.getElem_cons_succ, List.getElem_cons_zero, List.setIfInBounds_toArray, List.set_cons_zero, List.set_cons_succ]
  refine wpAnyH_take (i := 5) (v := ?_) rfl (by kernel_rfl) (by kernel_rfl) (by kernel_rfl) (fun _ _ _ h => h) (Or.inl ⟨by kernel_rfl, ?_⟩) (by first | assumption | trivial) ?_
  rotate_left
  · intro w hSw
    try dsimp only at hSw
    first | (go_simp; done) | (go_simp; with_reducible rfl)
  try simp only [Act.put, List.getElem_toArray, List.getElem_cons_succ, List.getElem_cons_zero, List.setIfInBounds_toArray, List.set_cons_zero, List.set_cons_succ]
  refine wpAnyH_take (i := 6) (v := ?_) rfl (by kernel_rfl) (by kernel_rfl) (by kernel_rfl) (fun _ _ _ h => h) (Or.inl ⟨by kernel_rfl, ?_⟩) (by first | assumption | trivial) ?_
  rotate_left
  · intro w hSw
    try dsimp only at hSw
    first | (go_simp; done) | (go_simp; with_reducible rfl)
  try simp only [Act.put, List.getElem_toArray, List.getElem_cons_succ, List.getElem_cons_zero, List.setIfInBounds_toArray, List.set_cons_zero, List.set_cons_succ]
  refine wpAnyH_take (i := 7) (v := ?_) rfl (by kernel_rfl) (by kernel_rfl) (by kernel_rfl) (fun _ _ _ h => h) (Or.inl ⟨by kernel_rfl, ?_⟩) (by first | assumption | trivial) ?_
  rotate_left
  · intro w hSw
    try dsimp only at hSw
    first | (go_simp; done) | (go_simp; with_reducible rfl)
  try simp only [Act.put, List.getElem_toArray, List.getElem_cons_succ, List.getElem_cons_zero, List.setIfInBounds_toArray, List.set_cons_zero, List.set_cons_succ]
  refine wpAnyH_take (i := 8) (v := ?_) rfl (by kernel_rfl) (by kernel_rfl) (by kernel_rfl) (fun _ _ _ h => h) (Or.inl ⟨by kernel_rfl, ?_⟩) (by first | assumption | trivial) ?_
  rotate_left
  · intro w hSw
    try dsimp only at hSw
    first | (go_simp; done) | (go_simp; with_reducible rfl)
  try simp only [Act.put, List.getElem_toArray, List.getElem_cons_succ, List.getElem_cons_zero, List.setIfInBounds_toArray, List.set_cons_zero, List.set_cons_succ]
  refine wpAnyH_ready (rs := [9]) (by kernel_rfl) (by simp) ?_
  refine AllReadyH.cons rfl (fun K hK => ?_) AllReadyH.nil
  go_simp
  go_at_call 23
  refine (HSA9.out).mono ?_
  rintro y w10 ⟨rfl, hb10⟩
  have B10 := Lib.hid ((Below.refl w9.heap.size w9).drew.trans hb10)
  clear hb10
  try go_wp2_with fail
  refine hK.out _ _ (HCV.out w10 B10.out) (fun hS => ?_)
  clear hK K
  try simp only [Act.put, List.getElem_toArray, List.getElem_cons_succ, List.getElem_cons_zero, List.setIfInBounds_toArray, List.set_cons_zero, List.set_cons_succ]
  refine wpAnyH_take (i := 10) (v := ?_) rfl (by kernel_rfl) (by kernel_rfl) (by kernel_rfl) (fun _ _ _ h => h) (Or.inl ⟨by kernel_rfl, ?_⟩) (by first | assumption | trivial) ?_
  rotate_left
  · intro w hSw
    try dsimp only at hSw
    first | (go_simp; done) | (go_simp; with_reducible rfl)
  try simp only [Act.put, List.getElem_toArray, List.getElem_cons_succ, List.getElem_cons_zero, List.setIfInBounds_toArray, List.set_cons_zero, List.set_cons_succ]
  refine wpAnyH_take (i := 11) (v := ?_) rfl (by kernel_rfl) (by kernel_rfl) (by kernel_rfl) (fun _ _ _ h => h) (Or.inl ⟨by kernel_rfl, ?_⟩) (by first | assumption | trivial) ?_
  rotate_left
  · intro w hSw
    try dsimp only at hSw
    first | (go_simp; done) | (go_simp; with_reducible rfl)
  try simp only [Act.put, List.getElem_toArray, List.getElem_cons_succ, List.getElem_cons_zero, List.setIfInBounds_toArray, List.set_cons_zero, List.set_cons_succ]
  refine wpAnyH_take (i := 12) (v := ?_) rfl (by kernel_rfl) (by kernel_rfl) (by kernel_rfl) (fun _ _ _ h => h) (Or.inl ⟨by kernel_rfl, ?_⟩) (by first | assumption | trivial) ?_
  rotate_left
  · intro w hSw
    try dsimp only at hSw
    first | (go_simp; done) | (go_simp; with_reducible rfl)
  try simp only [Act.put, List.getElem_toArray, List.getElem_cons_succ, List.getElem_cons_zero, List.setIfInBounds_toArray, List.set_cons_zero, List.set_cons_succ]
  refine wpAnyH_take (i := 13) (v := ?_) rfl (by kernel_rfl) (by kernel_rfl) (by kernel_rfl) (fun _ _ _ h => h) (Or.inl ⟨by kernel_rfl, ?_⟩) (by first | assumption | trivial) ?_
  rotate_left
  · intro w hSw
    try dsimp only at hSw
    first | (go_simp; done) | (go_simp; with_reducible rfl)
  try simp only [Act.put, List.getElem_toArray, List.getElem_cons_succ, List.getElem_cons_zero, List.setIfInBounds_toArray, List.set_cons_zero, List.set_cons_succ]
  refine wpAnyH_take (i := 14) (v := ?_) rfl (by kernel_rfl) (by kernel_rfl) (by kernel_rfl) (fun _ _ _ h => h) (Or.inl ⟨by kernel_rfl, ?_⟩) (by first | assumption | trivial) ?_
  rotate_left
  · intro w hSw
    try dsimp only at hSw
    first | (go_simp; done) | (go_simp; with_reducible rfl)
  try simp only [Act.put, List.getElem_toArray, List.getElem_cons_succ, List.getElem_cons_zero, List.setIfInBounds_toArray, List.set_cons_zero, List.set_cons_succ]
  refine wpAnyH_take (i := 15) (v := ?_) rfl (by kernel_rfl) (by kernel_rfl) (by kernel_rfl) (fun _ _ _ h => h) (Or.inl ⟨by kernel_rfl, ?_⟩) (by first | assumption | trivial) ?_
  rotate_left
  · intro w hSw
    try dsimp only at hSw
    first | (go_simp; done) | (go_simp; with_reducible rfl)
  try simp only [Act.put, List.getElem_toArray, List.getElem_cons_succ, List.getElem_cons_zero, List.setIfInBounds_toArray, List.set_cons_zero, List.set_cons_succ]
  refine wpAnyH_take (i := 16) (v := ?_) rfl (by kernel_rfl) (by kernel_rfl) (by kernel_rfl) (fun _ _ _ h => h) (Or.inl ⟨by kernel_rfl, ?_⟩) (by first | assumption | trivial) ?_
  rotate_left
  · intro w hSw
    try dsimp only at hSw
    first | (go_simp; done) | (go_simp; with_reducible rfl)
  try simp only [Act.put, List.getElem_toArray, List.getElem_cons_succ, List.getElem_cons_zero, List.setIfInBounds_toArray, List.set_cons_zero, List.set_cons_succ]
  refine wpAnyH_take (i := 17) (v := ?_) rfl (by kernel_rfl) (by kernel_rfl) (by kernel_rfl) (fun _ _ _ h => h) (Or.inl ⟨by kernel_rfl, ?_⟩) (by first | assumption | trivial) ?_
  rotate_left
  · intro w hSw
    try dsimp only at hSw
    first | (go_simp; done) | (go_simp; with_reducible rfl)
  try simp only [Act.put, List.getElem_toArray, List.getElem_cons_succ, List.getElem_cons_zero, List.setIfInBounds_toArray, List.set_cons_zero, List.set_cons_succ]
  refine wpAnyH_take (i := 18) (v := ?_) rfl (by kernel_rfl) (by kernel_rfl) (by kernel_rfl) (fun _ _ _ h => h) (Or.inl ⟨by kernel_rfl, ?_⟩) (by first | assumption | trivial) ?_
  rotate_left
  · intro w hSw
    try dsimp only at hSw
    first | (go_simp; done) | (go_simp; with_reducible rfl)
  try simp only [Act.put, List.getElem_toArray, List.getElem_cons_succ, List.getElem_cons_zero, List.setIfInBounds_toArray, List.set_cons_zero, List.set_cons_succ]
  refine wpAnyH_take (i := 19) (v := ?_) rfl (by kernel_rfl) (by kernel_rfl) (by kernel_rfl) (fun _ _ _ h => h) (Or.inl ⟨by kernel_rfl, ?_⟩) (by first | assumption | trivial) ?_
  rotate_left
  · intro w hSw
    try dsimp only at hSw
    first | (go_simp; done) | (go_simp; with_reducible rfl)
  try simp only [Act.put, List.getElem_toArray, List.getElem_cons_succ, List.getElem_cons_zero, List.setIfInBounds_toArray, List.set_cons_zero, List.set_cons_succ]
  refine wpAnyH_take (i := 20) (v := ?_) rfl (by kernel_rfl) (by kernel_rfl) (by kernel_rfl) (fun _ _ _ h => h) (Or.inl ⟨by kernel_rfl, ?_⟩) (by first | assumption | trivial) ?_
  rotate_left
  · intro w hSw
    try dsimp only at hSw
    first | (go_simp; done) | (go_simp; with_reducible rfl)
  try simp only [Act.put, List.getElem_toArray, List.getElem_cons_succ, List.getElem_cons_zero, List.setIfInBounds_toArray, List.set_cons_zero, List.set_cons_succ]
  refine wpAnyH_take (i := 21) (v := ?_) rfl (by kernel_rfl) (by kernel_rfl) (by kernel_rfl) (fun _ _ _ h => h) (Or.inl ⟨by kernel_rfl, ?_⟩) (by first | assumption | trivial) ?_
  rotate_left
  · intro w hSw
    try dsimp only at hSw
    first | (go_simp; done) | (go_simp; with_reducible rfl)
  try simp only [Act.put, List.getElem_toArray, List.getElem_cons_succ, List.getElem_cons_zero, List.setIfInBounds_toArray, List.set_cons_zero, List.set_cons_succ]
  refine wpAnyH_take (i := 22) (v := ?_) rfl (by kernel_rfl) (by kernel_rfl) (by kernel_rfl) (fun _ _ _ h => h) (Or.inl ⟨by kernel_rfl, ?_⟩) (by first | assumption | trivial) ?_
  rotate_left
  · intro w hSw
    try dsimp only at hSw
    first | (go_simp; done) | (go_simp; with_reducible rfl)
  try simp only [Act.put, List.getElem_toArray, List.getElem_cons_succ, List.getElem_cons_zero, List.setIfInBounds_toArray, List.set_cons_zero, List.set_cons_succ]
  refine wpAnyH_take (i := 23) (v := ?_) rfl (by kernel_rfl) (by kernel_rfl) (by kernel_rfl) (fun _ _ _ h => h) (Or.inl ⟨by kernel_rfl, ?_⟩) (by first | assumption | trivial) ?_
  rotate_left
  · intro w hSw
    try dsimp only at hSw
    first | (go_simp; done) | (go_simp; with_reducible rfl)
  try simp only [Act.put, List.getElem_toArray, List.getElem_cons_succ, List.getElem_cons_zero, List.setIfInBounds_toArray, List.set_cons_zero, List.set_cons_succ]
  refine wpAnyH_take (i := 24) (v := ?_) rfl (by kernel_rfl) (by kernel_rfl) (by kernel_rfl) (fun _ _ _ h => h) (Or.inl ⟨by kernel_rfl, ?_⟩) (by first | assumption | trivial) ?_
  rotate_left
  · intro w hSw
    try dsimp only at hSw
    first | (go_simp; done) | (go_simp; with_reducible rfl)
  try simp only [Act.put, List.getElem_toArray, List.getElem_cons_succ, List.getElem_cons_zero, List.setIfInBounds_toArray, List.set_cons_zero, List.set_cons_succ]
  refine wpAnyH_take (i := 25) (v := ?_) rfl (by kernel_rfl) (by kernel_rfl) (by kernel_rfl) (fun _ _ _ h => h) (Or.inl ⟨by kernel_rfl, ?_⟩) (by first | assumption | trivial) ?_
  rotate_left
  · intro w hSw
    try dsimp only at hSw
    first | (go_simp; done) | (go_simp; with_reducible rfl)
  try simp only [Act.put, List.getElem_toArray, List.getElem_cons_succ, List.getElem_cons_zero, List.setIfInBounds_toArray, List.set_cons_zero, List.set_cons_succ]
  refine wpAnyH_take (i := 26) (v := ?_) rfl (by kernel_rfl) (by kernel_rfl) (by kernel_rfl) (fun _ _ _ h => h) (Or.inl ⟨by kernel_rfl, ?_⟩) (by first | assumption | trivial) ?_
  rotate_left
  · intro w hSw
    try dsimp only at hSw
    first | (go_simp; done) | (go_simp; with_reducible rfl)
  try simp only [Act.put, List.getElem_toArray, List.getElem_cons_succ, List.getElem_cons_zero, List.setIfInBounds_toArray, List.set_cons_zero, List.set_cons_succ]
  refine wpAnyH_take (i := 27) (v := ?_) rfl (by kernel_rfl) (by kernel_rfl) (by kernel_rfl) (fun _ _ _ h => h) (Or.inl ⟨by kernel_rfl, ?_⟩) (by first | assumption | trivial) ?_
  rotate_left
  · intro w hSw
    try dsimp only at hSw
    first | (go_simp; done) | (go_simp; with_reducible rfl)
  try simp only [Act.put, List.getElem_toArray, List.getElem_cons_succ, List.getElem_cons_zero, List.setIfInBounds_toArray, List.set_cons_zero, List.set_cons_succ]
  refine wpAnyH_take (i := 28) (v := ?_) rfl (by kernel_rfl) (by kernel_rfl) (by kernel_rfl) (fun _ _ _ h => h) (Or.inl ⟨by kernel_rfl, ?_⟩) (by first | assumption | trivial) ?_
  rotate_left
  · intro w hSw
    try dsimp only at hSw
    first | (go_simp; done) | (go_simp; with_reducible rfl)
  try simp only [Act.put, List.getElem_toArray, List.getElem_cons_succ, List.getElem_cons_zero, List.setIfInBounds_toArray, List.set_cons_zero, List.set_cons_succ]
  refine wpAnyH_take (i := 30) (v := ?_) rfl (by kernel_rfl) (by kernel_rfl) (by kernel_rfl) (fun _ _ _ h => h) (Or.inl ⟨by kernel_rfl, ?_⟩) (by first | assumption | trivial) ?_
  rotate_left
  · intro w hSw
    try dsimp only at hSw
    first | (go_simp; done) | (go_simp; with_reducible rfl)
  try simp only [Act.put, List.getElem_toArray, List.getElem_cons_succ, List.getElem_cons_zero, List.setIfInBounds_toArray, List.set_cons_zero, List.set_cons_succ]
  refine wpAnyH_ready (rs := [29]) (by kernel_rfl) (by simp) ?_
  refine AllReadyH.cons rfl (fun K hK => ?_) AllReadyH.nil
  go_simp
  go_at_call 27
  refine (HSU.out w10 B10.out).mono ?_
  rintro y w11 ⟨rfl, rfl⟩
  try go_wp2_with fail
  refine hK.out _ _ (HCV.out w10 B10.out) (fun hS => ?_)
  clear hK K
  try simp only [Act.put, List.getElem_toArray, List.getElem_cons_succ, List.getElem_cons_zero, List.setIfInBounds_toArray, List.set_cons_zero, List.set_cons_succ]
  refine wpAnyH_take (i := 31) (v := ?_) rfl (by kernel_rfl) (by kernel_rfl) (by kernel_rfl) (fun _ _ _ h => h) (Or.inl ⟨by kernel_rfl, ?_⟩) (by first | assumption | trivial) ?_
  rotate_left
  · intro w hSw
    try dsimp only at hSw
    first | (go_simp; done) | (go_simp; with_reducible rfl)
  try simp only [Act.put, List.getElem_toArray, List.getElem_cons_succ, List.getElem_cons_zero, List.setIfInBounds_toArray, List.set_cons_zero, List.set_cons_succ]
  refine wpAnyH_take (i := 32) (v := ?_) rfl (by kernel_rfl) (by kernel_rfl) (by kernel_rfl) (fun _ _ _ h => h) (Or.inl ⟨by kernel_rfl, ?_⟩) (by first | assumption | trivial) ?_
  rotate_left
  · intro w hSw
    try dsimp only at hSw
    first | (go_simp; done) | (go_simp; with_reducible rfl)
  try simp only [Act.put, List.getElem_toArray, List.getElem_cons_succ, List.getElem_cons_zero, List.setIfInBounds_toArray, List.set_cons_zero, List.set_cons_succ]
  refine wpAnyH_take (i := 33) (v := ?_) rfl (by kernel_rfl) (by kernel_rfl) (by kernel_rfl) (fun _ _ _ h => h) (Or.inl ⟨by kernel_rfl, ?_⟩) (by first | assumption | trivial) ?_
  rotate_left
  · intro w hSw
    try dsimp only at hSw
    first | (go_simp; done) | (go_simp; with_reducible rfl)
  try simp only [Act.put, List.getElem_toArray, List.getElem_cons_succ, List.getElem_cons_zero, List.setIfInBounds_toArray, List.set_cons_zero, List.set_cons_succ]
  refine wpAnyH_done (by kernel_rfl) ?_ _
  go_wp2_with fail
  go_ret
  exact ⟨rfl, BW9.out.trans (B10.out.mono BW9.out.size)⟩
end Go.Proofs.Ytjbhcdmeeakdcaa
