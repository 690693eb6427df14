/- contralaw08.ticks by contract. -/
import Derived.Test.YtpmiekheiddihaaClkL
import Derived.Deep.CutBlock
namespace Go.Proofs.Ytpmiekheiddihaa
open Go.RowKit Go.Maps
/-- The strings of a slice, one by one. -/
theorem OwnT.str {w : World} {base : Nat} {v : Value} {xs : List ByteArray} (h : OwnT encT w base 9 v xs) : TRow encT w v xs := h.row
set_option linter.unusedSimpArgs false in
set_option maxHeartbeats 4000000 in
set_option maxRecDepth 100000 in
theorem ticks_any (w : World) : Calls Try.prog 8 #[] w fun e w' => e = .returned (.bool true) ∧ Below w.heap.size w w' := by
  have HN := Lib.hid (lnew_any w w (Below.refl _ _))
  go_enter Try.func8, Try.ntmps8
  go_wp2_with fail
  refine HN.out.mono ?_
  rintro y w1 ⟨rfl, hc1, hb1⟩
  have HC1 := Lib.hid hc1
  clear hc1 hb1 HN
  generalize w.heap.size + 1 = gc at *
  have HS1 := Lib.hid (lset_any w [] w1 gc 0 0 [] ⟨#[97]⟩ 2 HC1.out (by decide) (by decide) (by decide))
  rw [show setE 0 [] ⟨#[97]⟩ 2 = 0 by kernel_rfl] at HS1
  go_wp2_with fail
  refine HS1.out.mono ?_
  rintro y w2 ⟨rfl, -, -, k2, ds2, hc2, hr2⟩
  obtain ⟨rfl, b1, rfl⟩ := hr2.1 (by kernel_rfl)
  have HC2 : Hid (LC w [] w2 gc 0 1 [⟨b1, ⟨#[97]⟩, 2, 1⟩]) := Lib.hid hc2
  clear hc2 hr2 HC1 HS1
  have HS2 := Lib.hid (lset_any w [] w2 gc 0 1 [⟨b1, ⟨#[97]⟩, 2, 1⟩] ⟨#[98]⟩ 1 HC2.out (by decide) (by decide) (by decide))
  rw [show setE 0 [(⟨b1, ⟨#[97]⟩, 2, 1⟩ : Du)] ⟨#[98]⟩ 1 = 0 by kernel_rfl] at HS2
  go_wp2_with fail
  refine HS2.out.mono ?_
  rintro y w3 ⟨rfl, -, -, k3, ds3, hc3, hr3⟩
  obtain ⟨rfl, b2, rfl⟩ := hr3.1 (by kernel_rfl)
  have HC3 : Hid (LC w [] w3 gc 0 2 [⟨b1, ⟨#[97]⟩, 2, 1⟩, ⟨b2, ⟨#[98]⟩, 1, 2⟩]) := Lib.hid hc3
  clear hc3 hr3 HC2 HS2
  have HL3 := Lib.hid HC3.out.len_any
  go_wp2_with fail
  refine HL3.out.mono ?_
  rintro y w4 ⟨rfl, rfl⟩
  have HT4 := Lib.hid (ltick_any w [] w4 gc 0 2 _ HC3.out)
  clear HC3 HL3
  go_wp2_with fail
  refine HT4.out.mono ?_
  rintro y w5 ⟨v5, rfl, ho5, hb5, -, hl5⟩
  have ho5 : OwnT encT w5 w4.heap.size 9 v5 [⟨#[98]⟩] := ho5
  obtain ⟨p5, c5, hv5⟩ := ho5.form
  have hv5 : v5 = .slice p5 1 c5 := hv5
  subst hv5
  obtain ⟨g5, cur5, rfl, hg5, hB5, -⟩ := ho5.lies (by decide)
  have HC5 : Hid (LC w [g5] w5 gc 1 2 [⟨b1, ⟨#[97]⟩, 2, 1⟩]) := Lib.hid (hl5 [g5] (fun x hx => by rw [List.mem_singleton.1 hx]; exact hB5.lt) (fun b _ hne e => hne (by rw [List.mem_singleton.1 e]; rfl)))
  have HR5 : Hid (w5.cell? ⟨g5, 0, none⟩ = some (.string ⟨#[98]⟩)) := Lib.hid (by
    obtain ⟨b, o, e1, _, hx⟩ := ho5.row.at_ 0 (by decide)
    obtain ⟨rfl, rfl⟩ : g5 = b ∧ 0 = o := by simpa using e1
    exact hx 0 (by decide))
  clear ho5 hb5 hl5 hg5 hB5 HT4
  have HT5 := Lib.hid (ltick_any w [g5] w5 gc 1 2 _ HC5.out)
  clear HC5
  go_wp2_with fail
  refine HT5.out.mono ?_
  rintro y w6 ⟨v6, rfl, ho6, hb6, hs6, hl6⟩
  have ho6 : OwnT encT w6 w5.heap.size 9 v6 [⟨#[97]⟩] := ho6
  obtain ⟨p6, c6, hv6⟩ := ho6.form
  have hv6 : v6 = .slice p6 1 c6 := hv6
  subst hv6
  obtain ⟨g6, cur6, rfl, hg6, hB6, -⟩ := ho6.lies (by decide)
  have HC6 : Hid (LC w [] w6 gc 2 2 []) := Lib.hid (hl6 [] (fun x hx => by cases hx) (fun b _ _ e => by cases e))
  have r6 : w6.cell? ⟨g6, 0, none⟩ = some (.string ⟨#[97]⟩) := by
    obtain ⟨b, o, e1, _, hx⟩ := ho6.row.at_ 0 (by decide)
    obtain ⟨rfl, rfl⟩ : g6 = b ∧ 0 = o := by simpa using e1
    exact hx 0 (by decide)
  have r5 : w6.cell? ⟨g5, 0, none⟩ = some (.string ⟨#[98]⟩) := (World.cell?_of_block (hs6 g5 (by simp))).trans HR5.out
  have HN6 := Lib.hid HC6.out.now_any
  have HL6 := Lib.hid HC6.out.len_any
  clear ho6 hb6 hs6 hl6 hg6 hB6 HT5 HR5
  go_wp2_with fail
  refine HN6.out.mono ?_
  rintro y w7 ⟨rfl, rfl⟩
  go_wp2_with fail
  refine HL6.out.mono ?_
  rintro y w8 ⟨rfl, rfl⟩
  go_wp2_with fail
  go_ret
  exact ⟨rfl, HC6.out.below⟩
end Go.Proofs.Ytpmiekheiddihaa
