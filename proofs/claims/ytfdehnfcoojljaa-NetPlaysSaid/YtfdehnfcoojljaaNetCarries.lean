/- contralaw13.carries by contract: a packet comes. -/
import Derived.Test.YtfdehnfcoojljaaNetLaw
import Derived.Deep.CutRange
import Derived.Deep.CutBlock
namespace Go.Proofs.Ytfdehnfcoojljaa
open Go.RowKit
set_option linter.unusedSimpArgs false
/-- The rows of a block that is known. -/
theorem TRow.of_blk {α : Type} (e : Enc α) {w : World} {b c : Nat} {cs : Array Value} {ty : TypeId} (xs : List α) (hB : Blk w b cs ty) (hcs : cs.toList = xs.flatMap e.E) (hc : xs.length ≤ c) : TRow e w (.slice (some ⟨b, 0, none⟩) xs.length c) xs := by
  refine ⟨_, c, rfl, hc, .inr ⟨b, 0, rfl, hB.lt, fun i hi t ht => ?_⟩⟩
  rw [Nat.zero_add, hB.cell, ← Array.getElem?_toList, hcs, flat_get e xs i t hi ht]
def pk3 (f t n : Int) : Pk := ⟨f, t, n, 0, msgZ⟩
def pkx3 (f t n : Int) : PkX := ⟨f, t, n, 0, msgZX⟩
theorem msgZX_in (P : Nat → Prop) (w : World) : msgZX.InP P w := ⟨TRow.nil_ _ _, Row.nil_ _ _ 0, At.nil_ _ _, At.nil_ _ _, show Msg.Sz msgZ from ⟨by decide, by decide⟩⟩
set_option maxHeartbeats 4000000 in
set_option maxRecDepth 100000 in
theorem carries_any (w : World) : Calls Try.prog 8 #[] w fun e w' => e = .returned (.bool true) ∧ Below w.heap.size w w'  := by
  have hblk := Blk.new' (w.alloc (.cells #[.slice none 0 0] 26)) #[.int .i64 1, .int .i64 2, .int .i64 3, .int .i64 0, .int .i64 0, .int .i64 0, .int .i64 0, .int .i64 0, .int .i64 0, .int .i64 0, .int .i64 0, .int .i64 0, .bool false, .slice none 0 0, .slice none 0 0, .int .i64 0, .int .i64 4, .int .i64 0, .int .i64 0, .int .i64 0, .int .i64 0, .int .i64 0, .int .i64 0, .int .i64 0, .int .i64 0, .int .i64 0, .int .i64 0, .bool false, .slice none 0 0, .slice none 0 0] 38 (b := w.heap.size + 1) (by simp)
  have HN0 := Lib.hid ((Net.zero w.heap.size (fun b => b = w.heap.size + 1) w (Nat.le_refl _) (by simp)).kept (oneB (w.alloc (.cells #[.slice none 0 0] 26)) (.cells #[.int .i64 1, .int .i64 2, .int .i64 3, .int .i64 0, .int .i64 0, .int .i64 0, .int .i64 0, .int .i64 0, .int .i64 0, .int .i64 0, .int .i64 0, .int .i64 0, .bool false, .slice none 0 0, .slice none 0 0, .int .i64 0, .int .i64 4, .int .i64 0, .int .i64 0, .int .i64 0, .int .i64 0, .int .i64 0, .int .i64 0, .int .i64 0, .int .i64 0, .int .i64 0, .int .i64 0, .bool false, .slice none 0 0, .slice none 0 0] 38)))
  have HR0 : Hid (PkRow (fun b => b = w.heap.size + 1) ((w.alloc (.cells #[.slice none 0 0] 26)).alloc (.cells #[.int .i64 1, .int .i64 2, .int .i64 3, .int .i64 0, .int .i64 0, .int .i64 0, .int .i64 0, .int .i64 0, .int .i64 0, .int .i64 0, .int .i64 0, .int .i64 0, .bool false, .slice none 0 0, .slice none 0 0, .int .i64 0, .int .i64 4, .int .i64 0, .int .i64 0, .int .i64 0, .int .i64 0, .int .i64 0, .int .i64 0, .int .i64 0, .int .i64 0, .int .i64 0, .int .i64 0, .bool false, .slice none 0 0, .slice none 0 0] 38)) (.slice (some ⟨w.heap.size + 1, 0, none⟩) 2 2) [pk3 1 2 3, pk3 0 4 0]) := by
    refine ⟨[pkx3 1 2 3, pkx3 0 4 0], TRow.of_blk encK [pkx3 1 2 3, pkx3 0 4 0] hblk rfl (by show 2 ≤ 2; decide), (fun b o n c e _ => by cases e; rfl), (fun y hy => ?_), rfl⟩
    simp at hy
    rcases hy with rfl | rfl <;> exact msgZX_in _ _
  have HB2 : Hid (Below w.heap.size w ((w.alloc (.cells #[.slice none 0 0] 26)).alloc (.cells #[.int .i64 1, .int .i64 2, .int .i64 3, .int .i64 0, .int .i64 0, .int .i64 0, .int .i64 0, .int .i64 0, .int .i64 0, .int .i64 0, .int .i64 0, .int .i64 0, .bool false, .slice none 0 0, .slice none 0 0, .int .i64 0, .int .i64 4, .int .i64 0, .int .i64 0, .int .i64 0, .int .i64 0, .int .i64 0, .int .i64 0, .int .i64 0, .int .i64 0, .int .i64 0, .int .i64 0, .bool false, .slice none 0 0, .slice none 0 0] 38))) := (oneB w _).trans ((oneB _ _).mono (by simp))
  have HL0 : Hid (∀ b, b = w.heap.size + 1 → b < ((w.alloc (.cells #[.slice none 0 0] 26)).alloc (.cells #[.int .i64 1, .int .i64 2, .int .i64 3, .int .i64 0, .int .i64 0, .int .i64 0, .int .i64 0, .int .i64 0, .int .i64 0, .int .i64 0, .int .i64 0, .int .i64 0, .bool false, .slice none 0 0, .slice none 0 0, .int .i64 0, .int .i64 4, .int .i64 0, .int .i64 0, .int .i64 0, .int .i64 0, .int .i64 0, .int .i64 0, .int .i64 0, .int .i64 0, .int .i64 0, .int .i64 0, .bool false, .slice none 0 0, .slice none 0 0] 38)).heap.size) := by intro b hb; simp; omega
  clear hblk
  go_enter Try.func8, Try.ntmps8
  go_wp2_with fail
  generalize ((w.alloc (.cells #[.slice none 0 0] 26)).alloc (.cells #[.int .i64 1, .int .i64 2, .int .i64 3, .int .i64 0, .int .i64 0, .int .i64 0, .int .i64 0, .int .i64 0, .int .i64 0, .int .i64 0, .int .i64 0, .int .i64 0, .bool false, .slice none 0 0, .slice none 0 0, .int .i64 0, .int .i64 4, .int .i64 0, .int .i64 0, .int .i64 0, .int .i64 0, .int .i64 0, .int .i64 0, .int .i64 0, .int .i64 0, .int .i64 0, .int .i64 0, .bool false, .slice none 0 0, .slice none 0 0] 38)) = w2 at *
  have HS := Lib.hid (net_send w2 _ HN0.out HR0.out (fun b hb => .inr hb) HL0.out)
  refine HS.out.mono ?_
  rintro y w3 ⟨rfl, hn, hb, _⟩
  have e1 : (min [pk3 1 2 3, pk3 0 4 0].length (8192 - ([] : List Pk).length) : Nat) = 2 := rfl
  rw [e1]
  have HN3 : Hid (Net w.heap.size (fun _ => False) w3 w.heap.size [pk3 1 2 3, pk3 0 4 0]) := hn.ext (fun _ _ h => h.elim)
  have HB3 := Lib.hid (HB2.out.trans hb)
  clear e1 hn hb HS HN0 HR0 HL0 HB2
  go_wp2_with fail
  refine (net_take w3 0 HN3.out (by decide)).mono ?_
  rintro y w4 ⟨z, rfl, hz1, _, hn, hb, _⟩
  have HN4 : Hid (Net w.heap.size (fun _ => False) (w4.alloc (.cells #[.int .i64 z.f, .int .i64 z.t, .int .i64 z.n, .int .i64 z.h, .int .i64 z.x.m.k, .int .i64 z.x.m.s, .int .i64 z.x.m.n, .int .i64 z.x.m.b, .int .i64 z.x.m.c, .int .i64 z.x.m.r, .int .i64 z.x.m.y, .int .i64 z.x.m.a, .bool z.x.m.t, .slice z.x.pl z.x.m.ls.length z.x.cl, .slice z.x.pn z.x.m.ns.length z.x.cn] 38)) w.heap.size [pk3 0 4 0]) := (show Net w.heap.size (fun _ => False) w4 w.heap.size [pk3 0 4 0] from hn).kept (oneB w4 _)
  have hzn : z.n = 3 := congrArg Pk.n hz1
  have HZN := Lib.hid hzn
  have HB4 : Hid (Below w.heap.size w (w4.alloc (.cells #[.int .i64 z.f, .int .i64 z.t, .int .i64 z.n, .int .i64 z.h, .int .i64 z.x.m.k, .int .i64 z.x.m.s, .int .i64 z.x.m.n, .int .i64 z.x.m.b, .int .i64 z.x.m.c, .int .i64 z.x.m.r, .int .i64 z.x.m.y, .int .i64 z.x.m.a, .bool z.x.m.t, .slice z.x.pl z.x.m.ls.length z.x.cl, .slice z.x.pn z.x.m.ns.length z.x.cn] 38))) := (HB3.out.trans hb).alloc (HB3.out.trans hb).size _
  have HP4 := Lib.hid (Blk.new w4 #[.int .i64 z.f, .int .i64 z.t, .int .i64 z.n, .int .i64 z.h, .int .i64 z.x.m.k, .int .i64 z.x.m.s, .int .i64 z.x.m.n, .int .i64 z.x.m.b, .int .i64 z.x.m.c, .int .i64 z.x.m.r, .int .i64 z.x.m.y, .int .i64 z.x.m.a, .bool z.x.m.t, .slice z.x.pl z.x.m.ls.length z.x.cl, .slice z.x.pn z.x.m.ns.length z.x.cn] 38)
  clear hn hb hz1 hzn HN3 HB3
  unfold PkX.v
  go_wp2_with fail
  generalize w4.alloc (.cells #[.int .i64 z.f, .int .i64 z.t, .int .i64 z.n, .int .i64 z.h, .int .i64 z.x.m.k, .int .i64 z.x.m.s, .int .i64 z.x.m.n, .int .i64 z.x.m.b, .int .i64 z.x.m.c, .int .i64 z.x.m.r, .int .i64 z.x.m.y, .int .i64 z.x.m.a, .bool z.x.m.t, .slice z.x.pl z.x.m.ls.length z.x.cl, .slice z.x.pn z.x.m.ns.length z.x.cn] 38) = w5 at *
  generalize w4.heap.size = gp at *
  refine (net_take_no w5 5 HN4.out (by decide)).mono ?_
  rintro y w6 ⟨rfl, hb⟩
  have HN6 := Lib.hid ((HN4.out.kept hb).kept (oneB w6 (.cells #[.int .i64 0, .int .i64 0, .int .i64 0, .int .i64 0, .int .i64 0, .int .i64 0, .int .i64 0, .int .i64 0, .int .i64 0, .int .i64 0, .int .i64 0, .int .i64 0, .bool false, .slice none 0 0, .slice none 0 0] 38)))
  have HB6 : Hid (Below w.heap.size w (w6.alloc (.cells #[.int .i64 0, .int .i64 0, .int .i64 0, .int .i64 0, .int .i64 0, .int .i64 0, .int .i64 0, .int .i64 0, .int .i64 0, .int .i64 0, .int .i64 0, .int .i64 0, .bool false, .slice none 0 0, .slice none 0 0] 38))) := (HB4.out.trans (hb.mono HB4.out.size)).alloc (HB4.out.trans (hb.mono HB4.out.size)).size _
  have HP6 : Hid (Blk (w6.alloc (.cells #[.int .i64 0, .int .i64 0, .int .i64 0, .int .i64 0, .int .i64 0, .int .i64 0, .int .i64 0, .int .i64 0, .int .i64 0, .int .i64 0, .int .i64 0, .int .i64 0, .bool false, .slice none 0 0, .slice none 0 0] 38)) gp #[.int .i64 z.f, .int .i64 z.t, .int .i64 z.n, .int .i64 z.h, .int .i64 z.x.m.k, .int .i64 z.x.m.s, .int .i64 z.x.m.n, .int .i64 z.x.m.b, .int .i64 z.x.m.c, .int .i64 z.x.m.r, .int .i64 z.x.m.y, .int .i64 z.x.m.a, .bool z.x.m.t, .slice z.x.pl z.x.m.ls.length z.x.cl, .slice z.x.pn z.x.m.ns.length z.x.cn] 38) := (HP4.out.below hb HP4.out.lt).alloc _
  clear hb HN4 HB4 HP4
  unfold zeroVK
  go_upto_region 5 with fail
  generalize w6.alloc (.cells #[.int .i64 0, .int .i64 0, .int .i64 0, .int .i64 0, .int .i64 0, .int .i64 0, .int .i64 0, .int .i64 0, .int .i64 0, .int .i64 0, .int .i64 0, .int .i64 0, .bool false, .slice none 0 0, .slice none 0 0] 38) = w7 at *
  have c2 : w7.cell? ⟨gp, 2, none⟩ = some (.int .i64 3) := by rw [← HZN.out]; exact HP6.out.cell 2
  go_wp2_with fail
  clear c2
  refine (net_len w7 HN6.out).mono ?_
  rintro y w8 ⟨rfl, rfl⟩
  rw [show (([pk3 0 4 0] : List Pk).length : Int) = 1 from rfl]
  go_wp2_with fail
  refine (net_twice w8 0 HN6.out (by decide) (by decide) (fun _ h => h.elim)).mono ?_
  rintro y w9 ⟨rfl, hn, hb, _⟩
  have HN9 : Hid (Net w.heap.size (fun _ => False) w9 w.heap.size [pk3 0 4 0, pk3 0 4 0]) := hn
  have HB9 := Lib.hid (HB6.out.trans hb)
  clear hn hb
  go_wp2_with fail
  refine (net_len w9 HN9.out).mono ?_
  rintro y w10 ⟨rfl, rfl⟩
  rw [show (([pk3 0 4 0, pk3 0 4 0] : List Pk).length : Int) = 2 from rfl]
  go_wp2_with fail
  go_ret
  exact ⟨rfl, HB9.out⟩
end Go.Proofs.Ytfdehnfcoojljaa
