/- contralaw10.keeps by contract. -/
import Derived.Test.YtimkgaegemlcpaaPut
import Derived.Test.YtimkgaegemlcpaaGet
import Derived.Test.YtimkgaegemlcpaaBookOpen2
namespace Go.Proofs.Ytimkgaegemlcpaa
open Go.RowKit
def x10 : Itm := ⟨1, 5, 2, 0, 70, 0, 3, 0⟩
def o10 : Ord := ⟨0, 9, 33⟩
theorem noneF {α : Type} (f : α → Pos) (t : Pos) : AroundF f t [] [] [] [] := ⟨rfl, rfl, (fun _ h => by cases h), (fun _ h => by cases h), .inl rfl⟩
theorem oneF {α : Type} (f : α → Pos) (t : Pos) (x : α) (h : ordP (f x) t = 0) : AroundF f t [x] [] [x] [] := ⟨rfl, rfl, (fun _ h => by cases h), (fun _ h => by cases h), .inr ⟨f x, rfl, h⟩⟩
def st3 (w : World) (g : Nat) (a b c : Value) : World := ((w.setCell ⟨g, 0, none⟩ a).setCell ⟨g, 1, none⟩ b).setCell ⟨g, 2, none⟩ c
theorem st3_blk {w : World} {g : Nat} {cs : Array Value} {t : TypeId} (h : Blk w g cs t) (hs : cs.size = 3) (a b c : Value) : Blk (st3 w g a b c) g #[a, b, c] t := by
  have h2 := ((h.set 0 a).set 1 b).set 2 c
  have e : ((cs.setIfInBounds 0 a).setIfInBounds 1 b).setIfInBounds 2 c = #[a, b, c] := by
    match cs, hs with
    | ⟨[x, y, z]⟩, _ => rfl
  rw [e] at h2
  exact h2
theorem st3_below {B : Nat} {w w1 : World} {g : Nat} (h : Below B w w1) (hg : B ≤ g) (a b c : Value) : Below B w (st3 w1 g a b c) := h.setCell (p := ⟨g, 0, none⟩) hg a |>.setCell (p := ⟨g, 1, none⟩) hg b |>.setCell (p := ⟨g, 2, none⟩) hg c
theorem st3_size (w : World) (g : Nat) (a b c : Value) : (st3 w g a b c).heap.size = w.heap.size := by unfold st3; simp
theorem OwnT.st3 {α : Type} {e : Enc α} {w : World} {base g : Nat} {ty : TypeId} {v : Value} {xs : List α} (h : OwnT e w base ty v xs) (hg : g < base) (a b c : Value) : OwnT e (st3 w g a b c) base ty v xs := by
  refine h.stay (fun k hk => ?_)
  have hge := h.block_ge k hk
  show (((w.setCell ⟨g, 0, none⟩ a).setCell ⟨g, 1, none⟩ b).setCell ⟨g, 2, none⟩ c).heap[k]? = _
  rw [Below.heap_setCell _ _ _ k (by show k ≠ g; omega), Below.heap_setCell _ _ _ k (by show k ≠ g; omega), Below.heap_setCell _ _ _ k (by show k ≠ g; omega)]
theorem OwnT.len {α : Type} {e : Enc α} {w : World} {base n c : Nat} {ty : TypeId} {p : Option Addr} {xs : List α} (h : OwnT e w base ty (.slice p n c) xs) : n = xs.length := by
  obtain ⟨p', c', e1⟩ := h.form
  exact (Value.slice.inj e1).2.1
set_option linter.unusedSimpArgs false in
set_option maxHeartbeats 4000000 in
set_option maxRecDepth 100000 in
theorem keeps_any (w : World) : Calls Try.prog 4 #[] w fun e w' => e = .returned (.bool true) ∧ Below w.heap.size w w' := by
  go_enter Try.func4, Try.ntmps4
  go_wp2_with fail
  refine (newB_any w 1 (by decide)).mono ?_
  rintro y w1 ⟨rfl, hb1⟩
  have HPUT := Lib.hid (fun W => put_new W 1 none none 0 0 0 0 x10 [] [] [] (TRow.nil_ _ _) rfl (noneF _ _) (by decide) (by decide) (.inl rfl) (by decide))
  unfold bookV Itm.v x10 at HPUT
  unfold bookV at *
  have HB1 := Lib.hid hb1
  clear hb1
  go_wp2_with fail
  generalize hW2 : w1.alloc (.cells #[.int .i64 1, .slice none 0 0, .slice none 0 0] 31) = W2
  have HB2 : Hid (Below w.heap.size w W2) := by show Below _ _ _; rw [← hW2]; exact HB1.out.trans ((oneB w1 _).mono HB1.out.size)
  have HK2 : Hid (Blk W2 w1.heap.size #[.int .i64 1, .slice none 0 0, .slice none 0 0] 31) := by show Blk _ _ _ _; rw [← hW2]; exact Blk.new w1 _ _
  have HGE : Hid (w.heap.size ≤ w1.heap.size) := HB1.out.size
  clear hW2 HB1
  generalize w1.heap.size = g at *
  refine (HPUT.out W2).mono ?_
  rintro y w3 ⟨p3, n3, c3, rfl, ho3, hb3⟩
  have HB3 := Lib.hid (HB2.out.trans (hb3.mono HB2.out.size))
  have HK3 := Lib.hid (HK2.out.below hb3 HK2.out.lt)
  have HO3 := Lib.hid ho3
  have HG2 : Hid (g < W2.heap.size) := HK2.out.lt
  have hn3 : n3 = 1 := ho3.len
  subst hn3
  clear HPUT hb3 ho3 HK2 HB2
  have b0 : w3.cell? ⟨g, 0, none⟩ = some (.int .i64 1) := HK3.out.cell 0
  have b1 : w3.cell? ⟨g, 1, none⟩ = some (.slice none 0 0) := HK3.out.cell 1
  have b2 : w3.cell? ⟨g, 2, none⟩ = some (.slice none 0 0) := HK3.out.cell 2
  have f0 := HK3.out.free 0
  have f1 := HK3.out.free 1
  have f2 := HK3.out.free 2
  go_wp2_with fail
  have hW4 : (World.setCell (World.setCell (World.setCell w3 ⟨g, 0, none⟩ (.int .i64 1)) ⟨g, 1, none⟩ (.slice p3 1 c3)) ⟨g, 2, none⟩ (.slice none 0 0)) = st3 w3 g (.int .i64 1) (.slice p3 1 c3) (.slice none 0 0) := rfl
  rw [hW4]
  have HB4 := Lib.hid (st3_below HB3.out HGE.out (.int .i64 1) (.slice p3 1 c3) (.slice none 0 0))
  have HK4 := Lib.hid (st3_blk HK3.out rfl (.int .i64 1) (.slice p3 1 c3) (.slice none 0 0))
  have HO4 := Lib.hid (HO3.out.st3 HG2.out (.int .i64 1) (.slice p3 1 c3) (.slice none 0 0))
  generalize st3 w3 g (.int .i64 1) (.slice p3 1 c3) (.slice none 0 0) = W4 at *
  clear hW4 HB3 HK3 HO3 b0 b1 b2 f0 f1 f2
  have HEX := Lib.hid (expect_new W4 1 p3 none 1 c3 0 0 0 9 33 [] [] [] (TRow.nil_ _ _) rfl (noneF _ _) (by decide) (by decide) (by decide) (by decide))
  unfold bookV idV at HEX
  refine HEX.out.mono ?_
  rintro y w5 ⟨p5, n5, c5, rfl, ho5, hb5⟩
  have HB5 := Lib.hid (HB4.out.trans (hb5.mono HB4.out.size))
  have HK5 := Lib.hid (HK4.out.below hb5 HK4.out.lt)
  have HO5 := Lib.hid (HO4.out.later hb5)
  have HU5 := Lib.hid (ho5.less (Nat.le_of_lt HK4.out.lt : g ≤ W4.heap.size))
  have HG4 : Hid (g < W4.heap.size) := HK4.out.lt
  have HV5 := Lib.hid ho5
  have hn5 : n5 = 1 := ho5.len
  subst hn5
  clear HEX hb5 ho5 HK4 HB4 HO4 HU5
  have b0 : w5.cell? ⟨g, 0, none⟩ = some (.int .i64 1) := HK5.out.cell 0
  have b1 : w5.cell? ⟨g, 1, none⟩ = some (.slice p3 1 c3) := HK5.out.cell 1
  have b2 : w5.cell? ⟨g, 2, none⟩ = some (.slice none 0 0) := HK5.out.cell 2
  have f0 := HK5.out.free 0
  have f1 := HK5.out.free 1
  have f2 := HK5.out.free 2
  go_wp2_with fail
  have hW6 : (World.setCell (World.setCell (World.setCell w5 ⟨g, 0, none⟩ (.int .i64 1)) ⟨g, 1, none⟩ (.slice p3 1 c3)) ⟨g, 2, none⟩ (.slice p5 1 c5)) = st3 w5 g (.int .i64 1) (.slice p3 1 c3) (.slice p5 1 c5) := rfl
  rw [hW6]
  have HB6 := Lib.hid (st3_below HB5.out HGE.out (.int .i64 1) (.slice p3 1 c3) (.slice p5 1 c5))
  have HK6 := Lib.hid (st3_blk HK5.out rfl (.int .i64 1) (.slice p3 1 c3) (.slice p5 1 c5))
  have HO6 := Lib.hid (HO5.out.st3 HG2.out (.int .i64 1) (.slice p3 1 c3) (.slice p5 1 c5))
  have HV6 := Lib.hid (HV5.out.st3 HG4.out (.int .i64 1) (.slice p3 1 c3) (.slice p5 1 c5))
  generalize st3 w5 g (.int .i64 1) (.slice p3 1 c3) (.slice p5 1 c5) = W6 at *
  clear hW6 HB5 HK5 HO5 HV5 b0 b1 b2 f0 f1 f2
  have HGT := Lib.hid (get_found W6 1 p3 p5 1 c3 1 c5 1 5 [x10] [] [] x10 HO6.out.row rfl (oneF _ _ _ (by decide)) (by decide))
  unfold bookV idV Itm.v x10 at HGT
  refine HGT.out.mono ?_
  rintro y w7 ⟨rfl, hb7⟩
  have HB7 := Lib.hid (HB6.out.trans (hb7.mono HB6.out.size))
  have HK7 := Lib.hid (HK6.out.below hb7 HK6.out.lt)
  have HO7 := Lib.hid (HO6.out.later hb7)
  have HV7 := Lib.hid (HV6.out.later hb7)
  clear HGT hb7 HK6 HB6 HO6 HV6
  have HB8 : Hid (Below w.heap.size w (w7.alloc (.cells #[.int .i64 1, .int .i64 5, .int .i64 2, .int .i64 0, .int .i64 70, .int .i64 0, .int .i64 3, .int .i64 0] 37))) := HB7.out.trans ((oneB w7 _).mono HB7.out.size)
  have HK8 : Hid (Blk (w7.alloc (.cells #[.int .i64 1, .int .i64 5, .int .i64 2, .int .i64 0, .int .i64 70, .int .i64 0, .int .i64 3, .int .i64 0] 37)) g #[.int .i64 1, .slice p3 1 c3, .slice p5 1 c5] 31) := HK7.out.alloc _
  have HX8 : Hid (Blk (w7.alloc (.cells #[.int .i64 1, .int .i64 5, .int .i64 2, .int .i64 0, .int .i64 70, .int .i64 0, .int .i64 3, .int .i64 0] 37)) w7.heap.size #[.int .i64 1, .int .i64 5, .int .i64 2, .int .i64 0, .int .i64 70, .int .i64 0, .int .i64 3, .int .i64 0] 37) := Blk.new w7 _ _
  have HO8 := Lib.hid (HO7.out.later (oneB w7 (.cells #[.int .i64 1, .int .i64 5, .int .i64 2, .int .i64 0, .int .i64 70, .int .i64 0, .int .i64 3, .int .i64 0] 37)))
  have HV8 := Lib.hid (HV7.out.later (oneB w7 (.cells #[.int .i64 1, .int .i64 5, .int .i64 2, .int .i64 0, .int .i64 70, .int .i64 0, .int .i64 3, .int .i64 0] 37)))
  clear HB7 HK7 HO7 HV7
  have b0 : (w7.alloc (.cells #[.int .i64 1, .int .i64 5, .int .i64 2, .int .i64 0, .int .i64 70, .int .i64 0, .int .i64 3, .int .i64 0] 37)).cell? ⟨g, 0, none⟩ = some (.int .i64 1) := HK8.out.cell 0
  have b1 : (w7.alloc (.cells #[.int .i64 1, .int .i64 5, .int .i64 2, .int .i64 0, .int .i64 70, .int .i64 0, .int .i64 3, .int .i64 0] 37)).cell? ⟨g, 1, none⟩ = some (.slice p3 1 c3) := HK8.out.cell 1
  have b2 : (w7.alloc (.cells #[.int .i64 1, .int .i64 5, .int .i64 2, .int .i64 0, .int .i64 70, .int .i64 0, .int .i64 3, .int .i64 0] 37)).cell? ⟨g, 2, none⟩ = some (.slice p5 1 c5) := HK8.out.cell 2
  have f0 := HK8.out.free 0
  have f1 := HK8.out.free 1
  have f2 := HK8.out.free 2
  go_wp2_with fail
  generalize w7.alloc (.cells #[.int .i64 1, .int .i64 5, .int .i64 2, .int .i64 0, .int .i64 70, .int .i64 0, .int .i64 3, .int .i64 0] 37) = W8 at *
  generalize w7.heap.size = gx at *
  have HED := Lib.hid (expected_found W8 1 p3 p5 1 c3 1 c5 0 9 [o10] [] [] o10 HV8.out.row rfl (oneF _ _ _ (by decide)) (by decide))
  unfold bookV idV o10 at HED
  clear b0 b1 b2 f0 f1 f2
  refine HED.out.mono ?_
  rintro y w9 ⟨rfl, hb9⟩
  have HB9 := Lib.hid (HB8.out.trans (hb9.mono HB8.out.size))
  have HK9 := Lib.hid (HK8.out.below hb9 HK8.out.lt)
  have HX9 := Lib.hid (HX8.out.below hb9 HX8.out.lt)
  have HO9 := Lib.hid (HO8.out.later hb9)
  clear HED hb9 HK8 HB8 HO8 HV8 HX8
  have b0 : w9.cell? ⟨g, 0, none⟩ = some (.int .i64 1) := HK9.out.cell 0
  have b1 : w9.cell? ⟨g, 1, none⟩ = some (.slice p3 1 c3) := HK9.out.cell 1
  have b2 : w9.cell? ⟨g, 2, none⟩ = some (.slice p5 1 c5) := HK9.out.cell 2
  have f0 := HK9.out.free 0
  have f1 := HK9.out.free 1
  have f2 := HK9.out.free 2
  go_wp2_with fail
  have HOP := Lib.hid (open_none w9 1 p3 p5 1 c3 1 c5 [x10] 0 (-1) 70 0 HO9.out.row (by decide) (by decide) (by decide) (by decide) (by decide))
  unfold bookV at HOP
  clear b0 b1 b2 f0 f1 f2
  refine HOP.out.mono ?_
  rintro y w11 ⟨rfl, hb11⟩
  have HB11 := Lib.hid (HB9.out.trans (hb11.mono HB9.out.size))
  have HX11 := Lib.hid (HX9.out.below hb11 HX9.out.lt)
  have a4 : w11.cell? ⟨gx, 4, none⟩ = some (.int .i64 70) := HX11.out.cell 4
  clear HOP hb11
  go_wp2_with fail
  go_goals
  go_ret
  exact ⟨rfl, HB11.out⟩
end Go.Proofs.Ytimkgaegemlcpaa
