/- LinkRange: the walk. -/
import Derived.Test.YtfdailohpaiccaaSpeaks
namespace Go.Proofs.Ytfdailohpaiccaa
open Go.RowKit
set_option linter.unusedSimpArgs false
def msg1 : Msg := ⟨1, 0, 0, 0, 0, 0, 0, 0, false, [], []⟩
theorem msg1_sz : msg1.Sz := ⟨by decide, by decide⟩
theorem peers0_get (n j : Nat) (h : j < (peers0 n).length) : (peers0 n)[j] = ([], 0) := by simp [peers0]
theorem peAt0 (me : Int) (n : Nat) (i : Int) : peAt me (peers0 n) i = ([], 0) := by
  unfold peAt
  split
  · rename_i h
    have := okP_iff.1 h
    have hj : i.toNat < (peers0 n).length := by omega
    simp [List.getD_eq_getElem?_getD, List.getElem?_eq_getElem hj, peers0_get]
  · rfl
set_option maxHeartbeats 8000000 in
set_option maxRecDepth 100000 in
theorem lrange_walk (me n i k : Int) (W : World) (_ : -9223372036854775808 ≤ me ∧ me ≤ 9223372036854775807) (_ : -9223372036854775808 ≤ n ∧ n ≤ 9223372036854775807) (_ : -9223372036854775808 ≤ i ∧ i ≤ 9223372036854775807) (hk : -9223372036854775808 ≤ k ∧ k ≤ 9223372036854775807) :
    Calls Try.prog 5 #[.agg #[.int .i64 me, .int .i64 n], .int .i64 i, .int .i64 k] W fun e w' => e = .returned (.bool true) ∧ Below W.heap.size W w' := by
  have HK := Lib.hid hk
  clear hk
  by_cases hnew : okNew me n
  · obtain ⟨N, rfl⟩ : ∃ N : Nat, n = N := ⟨n.toNat, by unfold okNew at hnew; omega⟩
    have HNEW := Lib.hid hnew
    have HLEN : Hid ((peers0 N).length = N) := by show _ = _; simp [peers0]
    clear hnew
    by_cases hok : okP me N i = true
    · obtain ⟨j, rfl⟩ : ∃ j : Nat, i = j := ⟨i.toNat, by have := (okP_iff.1 hok).1; omega⟩
      have HOK := Lib.hid hok
      have hj := (okP_iff.1 hok).2.1
      have hj0 : ¬ (j : Int) = me := (okP_iff.1 hok).2.2
      clear hok
      have HJ : Hid (j < N) := by show j < N; omega
      have e0 : (0 : Int) ≤ (j : Int) := by omega
      have e2 : ((j : Int) != me) = true := by simpa using hj0
      have e3 : ((j : Int) == me) = false := by simpa using hj0
      go_enter Try.func5, Try.ntmps5
      go_wp2_with fail
      refine (speaks_any _).mono ?_
      rintro y w1 ⟨rfl, hb1⟩
      have hw1 := (Blk.new W #[.int .i64 me, .int .i64 (N : Nat)] 53).below hb1 (Blk.new W #[.int .i64 me, .int .i64 (N : Nat)] 53).lt
      have HW1 := Lib.hid hw1
      have B1 := Lib.hid ((oneB W (.cells #[.int .i64 me, .int .i64 (N : Nat)] 53)).trans (hb1.mono (oneB W (.cells #[.int .i64 me, .int .i64 (N : Nat)] 53)).size))
      have a0 : w1.cell? ⟨W.heap.size, 0, none⟩ = some (.int .i64 me) := hw1.cell 0
      have a1 : w1.cell? ⟨W.heap.size, 1, none⟩ = some (.int .i64 (N : Nat)) := hw1.cell 1
      clear hw1 hb1
      go_wp2_with fail
      clear a0 a1
      refine (new_ok (fun _ : Nat => True) me N w1 HNEW.out (fun _ _ => trivial)).mono ?_
      rintro y w2 ⟨_, rfl, ⟨p2, c2, rfl, hp2⟩, hb2⟩
      rw [HLEN.out] at hp2 ⊢
      have HL2 := Lib.hid (Blk.new w2 #[.int .i64 me, .slice p2 N c2] 27)
      have HP2 := Lib.hid (hp2.kept (oneB w2 (.cells #[.int .i64 me, .slice p2 N c2] 27)))
      have hw2 := (HW1.out.below hb2 HW1.out.lt).alloc (.cells #[.int .i64 me, .slice p2 N c2] 27)
      have B2 := Lib.hid ((B1.out.trans (hb2.mono B1.out.size)).alloc (B1.out.trans (hb2.mono B1.out.size)).size (.cells #[.int .i64 me, .slice p2 N c2] 27))
      have a0 : (w2.alloc (.cells #[.int .i64 me, .slice p2 N c2] 27)).cell? ⟨W.heap.size, 0, none⟩ = some (.int .i64 me) := hw2.cell 0
      have a1 : (w2.alloc (.cells #[.int .i64 me, .slice p2 N c2] 27)).cell? ⟨W.heap.size, 1, none⟩ = some (.int .i64 (N : Nat)) := hw2.cell 1
      have hl := HL2.out
      have b0 : (w2.alloc (.cells #[.int .i64 me, .slice p2 N c2] 27)).cell? ⟨w2.heap.size, 0, none⟩ = some (.int .i64 me) := hl.cell 0
      have b1 : (w2.alloc (.cells #[.int .i64 me, .slice p2 N c2] 27)).cell? ⟨w2.heap.size, 1, none⟩ = some (.slice p2 N c2) := hl.cell 1
      clear hp2 hw2 hb2 hl
      go_wp2_with fail
      generalize (w2.alloc (.cells #[.int .i64 me, .slice p2 N c2] 27)) = W2 at *
      generalize w2.heap.size = gl at *
      clear a0 a1 b0 b1
      have HSAY := say_ok (fun _ : Nat => True) me j p2 N c2 (peers0 N) msg1 (.slice none 0 0) (.slice none 0 0) W2 HLEN.out.symm HP2.out (TRow.nil_ _ _) (Row.nil_ _ _ 0) msg1_sz (by rw [HLEN.out]; exact HOK.out) (by rw [HLEN.out]; exact HJ.out) (by rw [HLEN.out]; have := HNEW.out.2.1; omega) (by rw [peers0_get]; decide) (fun _ _ => trivial)
      unfold Msg.v msg1 at HSAY
      dsimp only at HSAY
      refine HSAY.mono ?_
      clear HSAY
      rintro y w3 ⟨_, rfl, ⟨p3, c3, rfl, _⟩, hb3⟩
      rw [List.length_set, HLEN.out]
      have C3 := Lib.hid (hb3.alloc hb3.size (.cells #[.int .i64 me, .slice p3 N c3] 27))
      have HL3 := Lib.hid (HL2.out.below C3.out HL2.out.lt)
      have HP3 := Lib.hid (HP2.out.kept C3.out)
      have B3 := Lib.hid (B2.out.trans (C3.out.mono B2.out.size))
      have hl := HL3.out
      have b0 : (w3.alloc (.cells #[.int .i64 me, .slice p3 N c3] 27)).cell? ⟨gl, 0, none⟩ = some (.int .i64 me) := hl.cell 0
      have b1 : (w3.alloc (.cells #[.int .i64 me, .slice p3 N c3] 27)).cell? ⟨gl, 1, none⟩ = some (.slice p2 N c2) := hl.cell 1
      clear hl hb3 C3 HL2 HP2 B2
      go_wp2_with fail
      clear b0 b1
      generalize w3.alloc (.cells #[.int .i64 me, .slice p3 N c3] 27) = V3 at *
      refine (hear_ok (fun _ : Nat => True) me j p2 N c2 (peers0 N) V3 HLEN.out.symm HP3.out (by rw [HLEN.out]; exact HOK.out) (by rw [HLEN.out]; exact HJ.out) (by rw [HLEN.out]; have := HNEW.out.2.1; omega) (by rw [peers0_get]; decide) (fun _ _ => trivial)).mono ?_
      rintro y w4 ⟨_, rfl, ⟨p4, c4, rfl, _⟩, hb4⟩
      rw [List.length_set, HLEN.out]
      have C4 := Lib.hid (hb4.alloc hb4.size (.cells #[.int .i64 me, .slice p4 N c4] 27))
      have HL4 := Lib.hid (HL3.out.below C4.out HL3.out.lt)
      have HP4 := Lib.hid (HP3.out.kept C4.out)
      have B4 := Lib.hid (B3.out.trans (C4.out.mono B3.out.size))
      have hl := HL4.out
      have b0 : (w4.alloc (.cells #[.int .i64 me, .slice p4 N c4] 27)).cell? ⟨gl, 0, none⟩ = some (.int .i64 me) := hl.cell 0
      have b1 : (w4.alloc (.cells #[.int .i64 me, .slice p4 N c4] 27)).cell? ⟨gl, 1, none⟩ = some (.slice p2 N c2) := hl.cell 1
      clear hl hb4 C4 HL3 HP3 B3
      go_wp2_with fail
      clear b0 b1
      generalize w4.alloc (.cells #[.int .i64 me, .slice p4 N c4] 27) = V4 at *
      have HNX := next_any (fun _ : Nat => True) me j k p2 N c2 (peers0 N) V4 HLEN.out.symm HP4.out HK.out
      rw [peAt0, HLEN.out, HOK.out] at HNX
      have hnx : nextB ([], 0) true k = (k == 1) := by
        unfold nextB
        by_cases h : k = 1
        · subst h; rfl
        · have h1 : (k == 1) = false := by simpa using h
          have h2 : (k - 1 == 0) = false := by simp; omega
          simp [h1, h2]
      have hod : oldB ([], 0) true k = false := by unfold oldB; simp; omega
      rw [hnx, hod] at HNX
      clear hnx hod
      refine HNX.mono ?_
      clear HNX
      rintro y w5 ⟨rfl, hb5⟩
      have HL5 := Lib.hid (HL4.out.below hb5 HL4.out.lt)
      have HP5 := Lib.hid (HP4.out.kept hb5)
      have B5 := Lib.hid (B4.out.trans (hb5.mono B4.out.size))
      have hl := HL5.out
      have b0 : w5.cell? ⟨gl, 0, none⟩ = some (.int .i64 me) := hl.cell 0
      have b1 : w5.cell? ⟨gl, 1, none⟩ = some (.slice p2 N c2) := hl.cell 1
      clear hl hb5 HL4 HP4 B4
      go_wp2_with fail
      clear b0 b1
      have hgj : (peers0 N)[j]'(by rw [HLEN.out]; exact HJ.out) = ([], 0) := peers0_get N j _
      refine (packets_one (fun _ : Nat => True) me j k p2 N c2 (peers0 N) w5 HLEN.out.symm HP5.out (by rw [HLEN.out]; exact HOK.out) (by rw [HLEN.out]; exact HJ.out) (by rw [hgj]; decide) (by rw [hgj]; by_cases h : k < 0; exact .inl ⟨h, rfl⟩; exact .inr ⟨h, Nat.zero_le _⟩) (fun _ _ => trivial)).mono ?_
      rintro y w6 ⟨v6, rfl, ⟨ys, hy1, _, _, hy4⟩, hb6⟩
      have hyl : ys.length = 1 := by have := congrArg List.length hy4; simpa using this
      obtain ⟨p6, c6, rfl⟩ := hy1.shape
      obtain ⟨b, o, rfl, _, hc⟩ := hy1.at_ 0 (by omega)
      have hyn : ys[0].n = 0 := by
        have := congrArg (fun l => l[0]?.map Pk.n) hy4
        simpa [hyl, PkX.pk] using this
      have c2 : w6.cell? ⟨b, o + 2, none⟩ = some (.int .i64 0) := by have := hc 2 (by decide); rw [Nat.zero_mul, Nat.add_zero] at this; rw [this, ← hyn]; rfl
      have B6 := Lib.hid (B5.out.trans (hb6.mono B5.out.size))
      rw [hyl]
      clear hy1 hy4 hc hb6 hyn hyl
      have hkk : (true && (k == 1) == (k == 1)) = true := by simp
      go_wp2_with fail
      go_ret
      exact ⟨rfl, B6.out⟩
    · have hok' : okP me N i = false := by simpa using hok
      have hd : i < 0 ∨ (0 ≤ i ∧ (N : Int) ≤ i) ∨ (0 ≤ i ∧ i < (N : Int) ∧ i = me) := by
        have : ¬ (0 ≤ i ∧ i < (N : Int) ∧ i ≠ me) := fun hh => hok (okP_iff.2 hh)
        omega
      have HOK := Lib.hid hok'
      clear hok hok'
      rcases hd with h1 | ⟨h1, h2⟩ | ⟨h1, h2, h3⟩
      · have h1' : ¬ 0 ≤ i := by omega
        go_enter Try.func5, Try.ntmps5
        go_wp2_with fail
        refine (speaks_any _).mono ?_
        rintro y w1 ⟨rfl, hb1⟩
        have hw1 := (Blk.new W #[.int .i64 me, .int .i64 (N : Nat)] 53).below hb1 (Blk.new W #[.int .i64 me, .int .i64 (N : Nat)] 53).lt
        have HW1 := Lib.hid hw1
        have B1 := Lib.hid ((oneB W (.cells #[.int .i64 me, .int .i64 (N : Nat)] 53)).trans (hb1.mono (oneB W (.cells #[.int .i64 me, .int .i64 (N : Nat)] 53)).size))
        have a0 : w1.cell? ⟨W.heap.size, 0, none⟩ = some (.int .i64 me) := hw1.cell 0
        have a1 : w1.cell? ⟨W.heap.size, 1, none⟩ = some (.int .i64 (N : Nat)) := hw1.cell 1
        clear hw1 hb1
        go_wp2_with fail
        clear a0 a1
        refine (new_ok (fun _ : Nat => True) me N w1 HNEW.out (fun _ _ => trivial)).mono ?_
        rintro y w2 ⟨_, rfl, ⟨p2, c2, rfl, hp2⟩, hb2⟩
        rw [HLEN.out] at hp2 ⊢
        have HL2 := Lib.hid (Blk.new w2 #[.int .i64 me, .slice p2 N c2] 27)
        have HP2 := Lib.hid (hp2.kept (oneB w2 (.cells #[.int .i64 me, .slice p2 N c2] 27)))
        have hw2 := (HW1.out.below hb2 HW1.out.lt).alloc (.cells #[.int .i64 me, .slice p2 N c2] 27)
        have B2 := Lib.hid ((B1.out.trans (hb2.mono B1.out.size)).alloc (B1.out.trans (hb2.mono B1.out.size)).size (.cells #[.int .i64 me, .slice p2 N c2] 27))
        have a0 : (w2.alloc (.cells #[.int .i64 me, .slice p2 N c2] 27)).cell? ⟨W.heap.size, 0, none⟩ = some (.int .i64 me) := hw2.cell 0
        have a1 : (w2.alloc (.cells #[.int .i64 me, .slice p2 N c2] 27)).cell? ⟨W.heap.size, 1, none⟩ = some (.int .i64 (N : Nat)) := hw2.cell 1
        have hl := HL2.out
        have b0 : (w2.alloc (.cells #[.int .i64 me, .slice p2 N c2] 27)).cell? ⟨w2.heap.size, 0, none⟩ = some (.int .i64 me) := hl.cell 0
        have b1 : (w2.alloc (.cells #[.int .i64 me, .slice p2 N c2] 27)).cell? ⟨w2.heap.size, 1, none⟩ = some (.slice p2 N c2) := hl.cell 1
        clear hp2 hw2 hb2 hl
        go_wp2_with fail
        generalize (w2.alloc (.cells #[.int .i64 me, .slice p2 N c2] 27)) = W2 at *
        generalize w2.heap.size = gl at *
        clear a0 a1 b0 b1
        have HSAY := say_no (fun _ : Nat => True) me i p2 N c2 (peers0 N) msg1 (.slice none 0 0) (.slice none 0 0) W2 HLEN.out.symm HP2.out (TRow.nil_ _ _) (Row.nil_ _ _ 0) msg1_sz (by rw [HLEN.out]; exact HOK.out)
        unfold Msg.v msg1 at HSAY
        dsimp only at HSAY
        refine HSAY.mono ?_
        clear HSAY
        rintro y w3 ⟨rfl, hb3⟩
        have C3 := Lib.hid (hb3.alloc hb3.size (.cells #[.int .i64 0, .slice none 0 0] 27))
        have HL3 := Lib.hid (HL2.out.below C3.out HL2.out.lt)
        have HP3 := Lib.hid (HP2.out.kept C3.out)
        have B3 := Lib.hid (B2.out.trans (C3.out.mono B2.out.size))
        have hl := HL3.out
        have b0 : (w3.alloc (.cells #[.int .i64 0, .slice none 0 0] 27)).cell? ⟨gl, 0, none⟩ = some (.int .i64 me) := hl.cell 0
        have b1 : (w3.alloc (.cells #[.int .i64 0, .slice none 0 0] 27)).cell? ⟨gl, 1, none⟩ = some (.slice p2 N c2) := hl.cell 1
        clear hl hb3 C3 HL2 HP2 B2
        go_wp2_with fail
        clear b0 b1
        generalize w3.alloc (.cells #[.int .i64 0, .slice none 0 0] 27) = V3 at *
        refine (hear_no (fun _ : Nat => True) me i p2 N c2 (peers0 N) V3 HLEN.out.symm HP3.out (by rw [HLEN.out]; exact HOK.out)).mono ?_
        rintro y w4 ⟨rfl, hb4⟩
        have C4 := Lib.hid (hb4.alloc hb4.size (.cells #[.int .i64 0, .slice none 0 0] 27))
        have HL4 := Lib.hid (HL3.out.below C4.out HL3.out.lt)
        have HP4 := Lib.hid (HP3.out.kept C4.out)
        have B4 := Lib.hid (B3.out.trans (C4.out.mono B3.out.size))
        have hl := HL4.out
        have b0 : (w4.alloc (.cells #[.int .i64 0, .slice none 0 0] 27)).cell? ⟨gl, 0, none⟩ = some (.int .i64 me) := hl.cell 0
        have b1 : (w4.alloc (.cells #[.int .i64 0, .slice none 0 0] 27)).cell? ⟨gl, 1, none⟩ = some (.slice p2 N c2) := hl.cell 1
        clear hl hb4 C4 HL3 HP3 B3
        go_wp2_with fail
        clear b0 b1
        generalize w4.alloc (.cells #[.int .i64 0, .slice none 0 0] 27) = V4 at *
        have HNX := next_any (fun _ : Nat => True) me i k p2 N c2 (peers0 N) V4 HLEN.out.symm HP4.out HK.out
        rw [peAt0, HLEN.out, HOK.out] at HNX
        have hnx : nextB ([], 0) false k = false := rfl
        have hod : oldB ([], 0) false k = false := rfl
        rw [hnx, hod] at HNX
        clear hnx hod
        refine HNX.mono ?_
        clear HNX
        rintro y w5 ⟨rfl, hb5⟩
        have HL5 := Lib.hid (HL4.out.below hb5 HL4.out.lt)
        have HP5 := Lib.hid (HP4.out.kept hb5)
        have B5 := Lib.hid (B4.out.trans (hb5.mono B4.out.size))
        have hl := HL5.out
        have b0 : w5.cell? ⟨gl, 0, none⟩ = some (.int .i64 me) := hl.cell 0
        have b1 : w5.cell? ⟨gl, 1, none⟩ = some (.slice p2 N c2) := hl.cell 1
        clear hl hb5 HL4 HP4 B4
        go_wp2_with fail
        clear b0 b1
        refine (packets_no (fun _ : Nat => True) me i k p2 N c2 (peers0 N) w5 HLEN.out.symm HP5.out (by rw [HLEN.out]; exact HOK.out)).mono ?_
        rintro y w6 ⟨rfl, hb6⟩
        have B6 := Lib.hid (B5.out.trans (hb6.mono B5.out.size))
        clear hb6
        go_wp2_with fail
        go_ret
        exact ⟨rfl, B6.out⟩
      · have h2' : ¬ i < (N : Int) := by omega
        go_enter Try.func5, Try.ntmps5
        go_wp2_with fail
        refine (speaks_any _).mono ?_
        rintro y w1 ⟨rfl, hb1⟩
        have hw1 := (Blk.new W #[.int .i64 me, .int .i64 (N : Nat)] 53).below hb1 (Blk.new W #[.int .i64 me, .int .i64 (N : Nat)] 53).lt
        have HW1 := Lib.hid hw1
        have B1 := Lib.hid ((oneB W (.cells #[.int .i64 me, .int .i64 (N : Nat)] 53)).trans (hb1.mono (oneB W (.cells #[.int .i64 me, .int .i64 (N : Nat)] 53)).size))
        have a0 : w1.cell? ⟨W.heap.size, 0, none⟩ = some (.int .i64 me) := hw1.cell 0
        have a1 : w1.cell? ⟨W.heap.size, 1, none⟩ = some (.int .i64 (N : Nat)) := hw1.cell 1
        clear hw1 hb1
        go_wp2_with fail
        clear a0 a1
        refine (new_ok (fun _ : Nat => True) me N w1 HNEW.out (fun _ _ => trivial)).mono ?_
        rintro y w2 ⟨_, rfl, ⟨p2, c2, rfl, hp2⟩, hb2⟩
        rw [HLEN.out] at hp2 ⊢
        have HL2 := Lib.hid (Blk.new w2 #[.int .i64 me, .slice p2 N c2] 27)
        have HP2 := Lib.hid (hp2.kept (oneB w2 (.cells #[.int .i64 me, .slice p2 N c2] 27)))
        have hw2 := (HW1.out.below hb2 HW1.out.lt).alloc (.cells #[.int .i64 me, .slice p2 N c2] 27)
        have B2 := Lib.hid ((B1.out.trans (hb2.mono B1.out.size)).alloc (B1.out.trans (hb2.mono B1.out.size)).size (.cells #[.int .i64 me, .slice p2 N c2] 27))
        have a0 : (w2.alloc (.cells #[.int .i64 me, .slice p2 N c2] 27)).cell? ⟨W.heap.size, 0, none⟩ = some (.int .i64 me) := hw2.cell 0
        have a1 : (w2.alloc (.cells #[.int .i64 me, .slice p2 N c2] 27)).cell? ⟨W.heap.size, 1, none⟩ = some (.int .i64 (N : Nat)) := hw2.cell 1
        have hl := HL2.out
        have b0 : (w2.alloc (.cells #[.int .i64 me, .slice p2 N c2] 27)).cell? ⟨w2.heap.size, 0, none⟩ = some (.int .i64 me) := hl.cell 0
        have b1 : (w2.alloc (.cells #[.int .i64 me, .slice p2 N c2] 27)).cell? ⟨w2.heap.size, 1, none⟩ = some (.slice p2 N c2) := hl.cell 1
        clear hp2 hw2 hb2 hl
        go_wp2_with fail
        generalize (w2.alloc (.cells #[.int .i64 me, .slice p2 N c2] 27)) = W2 at *
        generalize w2.heap.size = gl at *
        clear a0 a1 b0 b1
        have HSAY := say_no (fun _ : Nat => True) me i p2 N c2 (peers0 N) msg1 (.slice none 0 0) (.slice none 0 0) W2 HLEN.out.symm HP2.out (TRow.nil_ _ _) (Row.nil_ _ _ 0) msg1_sz (by rw [HLEN.out]; exact HOK.out)
        unfold Msg.v msg1 at HSAY
        dsimp only at HSAY
        refine HSAY.mono ?_
        clear HSAY
        rintro y w3 ⟨rfl, hb3⟩
        have C3 := Lib.hid (hb3.alloc hb3.size (.cells #[.int .i64 0, .slice none 0 0] 27))
        have HL3 := Lib.hid (HL2.out.below C3.out HL2.out.lt)
        have HP3 := Lib.hid (HP2.out.kept C3.out)
        have B3 := Lib.hid (B2.out.trans (C3.out.mono B2.out.size))
        have hl := HL3.out
        have b0 : (w3.alloc (.cells #[.int .i64 0, .slice none 0 0] 27)).cell? ⟨gl, 0, none⟩ = some (.int .i64 me) := hl.cell 0
        have b1 : (w3.alloc (.cells #[.int .i64 0, .slice none 0 0] 27)).cell? ⟨gl, 1, none⟩ = some (.slice p2 N c2) := hl.cell 1
        clear hl hb3 C3 HL2 HP2 B2
        go_wp2_with fail
        clear b0 b1
        generalize w3.alloc (.cells #[.int .i64 0, .slice none 0 0] 27) = V3 at *
        refine (hear_no (fun _ : Nat => True) me i p2 N c2 (peers0 N) V3 HLEN.out.symm HP3.out (by rw [HLEN.out]; exact HOK.out)).mono ?_
        rintro y w4 ⟨rfl, hb4⟩
        have C4 := Lib.hid (hb4.alloc hb4.size (.cells #[.int .i64 0, .slice none 0 0] 27))
        have HL4 := Lib.hid (HL3.out.below C4.out HL3.out.lt)
        have HP4 := Lib.hid (HP3.out.kept C4.out)
        have B4 := Lib.hid (B3.out.trans (C4.out.mono B3.out.size))
        have hl := HL4.out
        have b0 : (w4.alloc (.cells #[.int .i64 0, .slice none 0 0] 27)).cell? ⟨gl, 0, none⟩ = some (.int .i64 me) := hl.cell 0
        have b1 : (w4.alloc (.cells #[.int .i64 0, .slice none 0 0] 27)).cell? ⟨gl, 1, none⟩ = some (.slice p2 N c2) := hl.cell 1
        clear hl hb4 C4 HL3 HP3 B3
        go_wp2_with fail
        clear b0 b1
        generalize w4.alloc (.cells #[.int .i64 0, .slice none 0 0] 27) = V4 at *
        have HNX := next_any (fun _ : Nat => True) me i k p2 N c2 (peers0 N) V4 HLEN.out.symm HP4.out HK.out
        rw [peAt0, HLEN.out, HOK.out] at HNX
        have hnx : nextB ([], 0) false k = false := rfl
        have hod : oldB ([], 0) false k = false := rfl
        rw [hnx, hod] at HNX
        clear hnx hod
        refine HNX.mono ?_
        clear HNX
        rintro y w5 ⟨rfl, hb5⟩
        have HL5 := Lib.hid (HL4.out.below hb5 HL4.out.lt)
        have HP5 := Lib.hid (HP4.out.kept hb5)
        have B5 := Lib.hid (B4.out.trans (hb5.mono B4.out.size))
        have hl := HL5.out
        have b0 : w5.cell? ⟨gl, 0, none⟩ = some (.int .i64 me) := hl.cell 0
        have b1 : w5.cell? ⟨gl, 1, none⟩ = some (.slice p2 N c2) := hl.cell 1
        clear hl hb5 HL4 HP4 B4
        go_wp2_with fail
        clear b0 b1
        refine (packets_no (fun _ : Nat => True) me i k p2 N c2 (peers0 N) w5 HLEN.out.symm HP5.out (by rw [HLEN.out]; exact HOK.out)).mono ?_
        rintro y w6 ⟨rfl, hb6⟩
        have B6 := Lib.hid (B5.out.trans (hb6.mono B5.out.size))
        clear hb6
        go_wp2_with fail
        go_ret
        exact ⟨rfl, B6.out⟩
      · subst h3
        go_enter Try.func5, Try.ntmps5
        go_wp2_with fail
        refine (speaks_any _).mono ?_
        rintro y w1 ⟨rfl, hb1⟩
        have hw1 := (Blk.new W #[.int .i64 i, .int .i64 (N : Nat)] 53).below hb1 (Blk.new W #[.int .i64 i, .int .i64 (N : Nat)] 53).lt
        have HW1 := Lib.hid hw1
        have B1 := Lib.hid ((oneB W (.cells #[.int .i64 i, .int .i64 (N : Nat)] 53)).trans (hb1.mono (oneB W (.cells #[.int .i64 i, .int .i64 (N : Nat)] 53)).size))
        have a0 : w1.cell? ⟨W.heap.size, 0, none⟩ = some (.int .i64 i) := hw1.cell 0
        have a1 : w1.cell? ⟨W.heap.size, 1, none⟩ = some (.int .i64 (N : Nat)) := hw1.cell 1
        clear hw1 hb1
        go_wp2_with fail
        clear a0 a1
        refine (new_ok (fun _ : Nat => True) i N w1 HNEW.out (fun _ _ => trivial)).mono ?_
        rintro y w2 ⟨_, rfl, ⟨p2, c2, rfl, hp2⟩, hb2⟩
        rw [HLEN.out] at hp2 ⊢
        have HL2 := Lib.hid (Blk.new w2 #[.int .i64 i, .slice p2 N c2] 27)
        have HP2 := Lib.hid (hp2.kept (oneB w2 (.cells #[.int .i64 i, .slice p2 N c2] 27)))
        have hw2 := (HW1.out.below hb2 HW1.out.lt).alloc (.cells #[.int .i64 i, .slice p2 N c2] 27)
        have B2 := Lib.hid ((B1.out.trans (hb2.mono B1.out.size)).alloc (B1.out.trans (hb2.mono B1.out.size)).size (.cells #[.int .i64 i, .slice p2 N c2] 27))
        have a0 : (w2.alloc (.cells #[.int .i64 i, .slice p2 N c2] 27)).cell? ⟨W.heap.size, 0, none⟩ = some (.int .i64 i) := hw2.cell 0
        have a1 : (w2.alloc (.cells #[.int .i64 i, .slice p2 N c2] 27)).cell? ⟨W.heap.size, 1, none⟩ = some (.int .i64 (N : Nat)) := hw2.cell 1
        have hl := HL2.out
        have b0 : (w2.alloc (.cells #[.int .i64 i, .slice p2 N c2] 27)).cell? ⟨w2.heap.size, 0, none⟩ = some (.int .i64 i) := hl.cell 0
        have b1 : (w2.alloc (.cells #[.int .i64 i, .slice p2 N c2] 27)).cell? ⟨w2.heap.size, 1, none⟩ = some (.slice p2 N c2) := hl.cell 1
        clear hp2 hw2 hb2 hl
        go_wp2_with fail
        generalize (w2.alloc (.cells #[.int .i64 i, .slice p2 N c2] 27)) = W2 at *
        generalize w2.heap.size = gl at *
        clear a0 a1 b0 b1
        have HSAY := say_no (fun _ : Nat => True) i i p2 N c2 (peers0 N) msg1 (.slice none 0 0) (.slice none 0 0) W2 HLEN.out.symm HP2.out (TRow.nil_ _ _) (Row.nil_ _ _ 0) msg1_sz (by rw [HLEN.out]; exact HOK.out)
        unfold Msg.v msg1 at HSAY
        dsimp only at HSAY
        refine HSAY.mono ?_
        clear HSAY
        rintro y w3 ⟨rfl, hb3⟩
        have C3 := Lib.hid (hb3.alloc hb3.size (.cells #[.int .i64 0, .slice none 0 0] 27))
        have HL3 := Lib.hid (HL2.out.below C3.out HL2.out.lt)
        have HP3 := Lib.hid (HP2.out.kept C3.out)
        have B3 := Lib.hid (B2.out.trans (C3.out.mono B2.out.size))
        have hl := HL3.out
        have b0 : (w3.alloc (.cells #[.int .i64 0, .slice none 0 0] 27)).cell? ⟨gl, 0, none⟩ = some (.int .i64 i) := hl.cell 0
        have b1 : (w3.alloc (.cells #[.int .i64 0, .slice none 0 0] 27)).cell? ⟨gl, 1, none⟩ = some (.slice p2 N c2) := hl.cell 1
        clear hl hb3 C3 HL2 HP2 B2
        go_wp2_with fail
        clear b0 b1
        generalize w3.alloc (.cells #[.int .i64 0, .slice none 0 0] 27) = V3 at *
        refine (hear_no (fun _ : Nat => True) i i p2 N c2 (peers0 N) V3 HLEN.out.symm HP3.out (by rw [HLEN.out]; exact HOK.out)).mono ?_
        rintro y w4 ⟨rfl, hb4⟩
        have C4 := Lib.hid (hb4.alloc hb4.size (.cells #[.int .i64 0, .slice none 0 0] 27))
        have HL4 := Lib.hid (HL3.out.below C4.out HL3.out.lt)
        have HP4 := Lib.hid (HP3.out.kept C4.out)
        have B4 := Lib.hid (B3.out.trans (C4.out.mono B3.out.size))
        have hl := HL4.out
        have b0 : (w4.alloc (.cells #[.int .i64 0, .slice none 0 0] 27)).cell? ⟨gl, 0, none⟩ = some (.int .i64 i) := hl.cell 0
        have b1 : (w4.alloc (.cells #[.int .i64 0, .slice none 0 0] 27)).cell? ⟨gl, 1, none⟩ = some (.slice p2 N c2) := hl.cell 1
        clear hl hb4 C4 HL3 HP3 B3
        go_wp2_with fail
        clear b0 b1
        generalize w4.alloc (.cells #[.int .i64 0, .slice none 0 0] 27) = V4 at *
        have HNX := next_any (fun _ : Nat => True) i i k p2 N c2 (peers0 N) V4 HLEN.out.symm HP4.out HK.out
        rw [peAt0, HLEN.out, HOK.out] at HNX
        have hnx : nextB ([], 0) false k = false := rfl
        have hod : oldB ([], 0) false k = false := rfl
        rw [hnx, hod] at HNX
        clear hnx hod
        refine HNX.mono ?_
        clear HNX
        rintro y w5 ⟨rfl, hb5⟩
        have HL5 := Lib.hid (HL4.out.below hb5 HL4.out.lt)
        have HP5 := Lib.hid (HP4.out.kept hb5)
        have B5 := Lib.hid (B4.out.trans (hb5.mono B4.out.size))
        have hl := HL5.out
        have b0 : w5.cell? ⟨gl, 0, none⟩ = some (.int .i64 i) := hl.cell 0
        have b1 : w5.cell? ⟨gl, 1, none⟩ = some (.slice p2 N c2) := hl.cell 1
        clear hl hb5 HL4 HP4 B4
        go_wp2_with fail
        clear b0 b1
        refine (packets_no (fun _ : Nat => True) i i k p2 N c2 (peers0 N) w5 HLEN.out.symm HP5.out (by rw [HLEN.out]; exact HOK.out)).mono ?_
        rintro y w6 ⟨rfl, hb6⟩
        have B6 := Lib.hid (B5.out.trans (hb6.mono B5.out.size))
        clear hb6
        go_wp2_with fail
        go_ret
        exact ⟨rfl, B6.out⟩
  · have HNO := Lib.hid (fun w => new_no me n w hnew)
    clear hnew
    go_enter Try.func5, Try.ntmps5
    go_wp2_with fail
    refine (speaks_any _).mono ?_
    rintro y w1 ⟨rfl, hb1⟩
    have hw1 := (Blk.new W #[.int .i64 me, .int .i64 n] 53).below hb1 (Blk.new W #[.int .i64 me, .int .i64 n] 53).lt
    have HW1 := Lib.hid hw1
    have B1 := Lib.hid ((oneB W (.cells #[.int .i64 me, .int .i64 n] 53)).trans (hb1.mono (oneB W (.cells #[.int .i64 me, .int .i64 n] 53)).size))
    have a0 : w1.cell? ⟨W.heap.size, 0, none⟩ = some (.int .i64 me) := hw1.cell 0
    have a1 : w1.cell? ⟨W.heap.size, 1, none⟩ = some (.int .i64 n) := hw1.cell 1
    clear hw1 hb1
    go_wp2_with fail
    clear a0 a1
    refine (HNO.out _).mono ?_
    rintro y w2 ⟨rfl, hb2⟩
    have B2 := Lib.hid (B1.out.trans (hb2.mono B1.out.size))
    clear hb2
    go_wp2_with fail
    go_ret
    exact ⟨rfl, B2.out.alloc B2.out.size _⟩
end Go.Proofs.Ytfdailohpaiccaa
