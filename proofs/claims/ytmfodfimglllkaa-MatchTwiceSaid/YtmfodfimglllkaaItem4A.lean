/- item.turn by contract; a whole item stored. -/
import Derived.Test.YtmfodfimglllkaaItem2
namespace Go.Proofs.Ytmfodfimglllkaa
open Go.RowKit
/-- An item and an error's number as what a call answers. -/
def ansI (p : Itm × Int) : Ending := .returned (.tuple #[p.1.v, .int .i64 p.2])
theorem retA {p q : Itm × Int} (h : p = q) : ansI p = ansI q := by rw [h]
/-- A whole item stored into block b. -/
abbrev set8 (w : World) (b : Nat) (x : Itm) : World := ((((((((w.setCell ⟨b, 0, none⟩ (.int .i64 x.s)).setCell ⟨b, 1, none⟩ (.int .i64 x.n)).setCell ⟨b, 2, none⟩ (.int .i64 x.b)).setCell ⟨b, 3, none⟩ (.int .i64 x.c)).setCell ⟨b, 4, none⟩ (.int .i64 x.a)).setCell ⟨b, 5, none⟩ (.int .i64 x.r)).setCell ⟨b, 6, none⟩ (.int .i64 x.t)).setCell ⟨b, 7, none⟩ (.int .i64 x.y))
abbrev Itm.row (x : Itm) : Array Value := #[.int .i64 x.s, .int .i64 x.n, .int .i64 x.b, .int .i64 x.c, .int .i64 x.a, .int .i64 x.r, .int .i64 x.t, .int .i64 x.y]
abbrev zeroI : Itm := ⟨0, 0, 0, 0, 0, 0, 0, 0⟩
theorem blk_set8 {w : World} {b : Nat} {z : Itm} {t : TypeId} (h : Blk w b z.row t) (x : Itm) : Blk (set8 w b x) b x.row t := by
  have h0 : Blk (w.setCell ⟨b, 0, none⟩ (.int .i64 x.s)) b #[.int .i64 x.s, .int .i64 z.n, .int .i64 z.b, .int .i64 z.c, .int .i64 z.a, .int .i64 z.r, .int .i64 z.t, .int .i64 z.y] t := h.set 0 (.int .i64 x.s)
  have h1 : Blk ((w.setCell ⟨b, 0, none⟩ (.int .i64 x.s)).setCell ⟨b, 1, none⟩ (.int .i64 x.n)) b #[.int .i64 x.s, .int .i64 x.n, .int .i64 z.b, .int .i64 z.c, .int .i64 z.a, .int .i64 z.r, .int .i64 z.t, .int .i64 z.y] t := h0.set 1 (.int .i64 x.n)
  have h2 : Blk (((w.setCell ⟨b, 0, none⟩ (.int .i64 x.s)).setCell ⟨b, 1, none⟩ (.int .i64 x.n)).setCell ⟨b, 2, none⟩ (.int .i64 x.b)) b #[.int .i64 x.s, .int .i64 x.n, .int .i64 x.b, .int .i64 z.c, .int .i64 z.a, .int .i64 z.r, .int .i64 z.t, .int .i64 z.y] t := h1.set 2 (.int .i64 x.b)
  have h3 : Blk ((((w.setCell ⟨b, 0, none⟩ (.int .i64 x.s)).setCell ⟨b, 1, none⟩ (.int .i64 x.n)).setCell ⟨b, 2, none⟩ (.int .i64 x.b)).setCell ⟨b, 3, none⟩ (.int .i64 x.c)) b #[.int .i64 x.s, .int .i64 x.n, .int .i64 x.b, .int .i64 x.c, .int .i64 z.a, .int .i64 z.r, .int .i64 z.t, .int .i64 z.y] t := h2.set 3 (.int .i64 x.c)
  have h4 : Blk (((((w.setCell ⟨b, 0, none⟩ (.int .i64 x.s)).setCell ⟨b, 1, none⟩ (.int .i64 x.n)).setCell ⟨b, 2, none⟩ (.int .i64 x.b)).setCell ⟨b, 3, none⟩ (.int .i64 x.c)).setCell ⟨b, 4, none⟩ (.int .i64 x.a)) b #[.int .i64 x.s, .int .i64 x.n, .int .i64 x.b, .int .i64 x.c, .int .i64 x.a, .int .i64 z.r, .int .i64 z.t, .int .i64 z.y] t := h3.set 4 (.int .i64 x.a)
  have h5 : Blk ((((((w.setCell ⟨b, 0, none⟩ (.int .i64 x.s)).setCell ⟨b, 1, none⟩ (.int .i64 x.n)).setCell ⟨b, 2, none⟩ (.int .i64 x.b)).setCell ⟨b, 3, none⟩ (.int .i64 x.c)).setCell ⟨b, 4, none⟩ (.int .i64 x.a)).setCell ⟨b, 5, none⟩ (.int .i64 x.r)) b #[.int .i64 x.s, .int .i64 x.n, .int .i64 x.b, .int .i64 x.c, .int .i64 x.a, .int .i64 x.r, .int .i64 z.t, .int .i64 z.y] t := h4.set 5 (.int .i64 x.r)
  have h6 : Blk (((((((w.setCell ⟨b, 0, none⟩ (.int .i64 x.s)).setCell ⟨b, 1, none⟩ (.int .i64 x.n)).setCell ⟨b, 2, none⟩ (.int .i64 x.b)).setCell ⟨b, 3, none⟩ (.int .i64 x.c)).setCell ⟨b, 4, none⟩ (.int .i64 x.a)).setCell ⟨b, 5, none⟩ (.int .i64 x.r)).setCell ⟨b, 6, none⟩ (.int .i64 x.t)) b #[.int .i64 x.s, .int .i64 x.n, .int .i64 x.b, .int .i64 x.c, .int .i64 x.a, .int .i64 x.r, .int .i64 x.t, .int .i64 z.y] t := h5.set 6 (.int .i64 x.t)
  have h7 : Blk ((((((((w.setCell ⟨b, 0, none⟩ (.int .i64 x.s)).setCell ⟨b, 1, none⟩ (.int .i64 x.n)).setCell ⟨b, 2, none⟩ (.int .i64 x.b)).setCell ⟨b, 3, none⟩ (.int .i64 x.c)).setCell ⟨b, 4, none⟩ (.int .i64 x.a)).setCell ⟨b, 5, none⟩ (.int .i64 x.r)).setCell ⟨b, 6, none⟩ (.int .i64 x.t)).setCell ⟨b, 7, none⟩ (.int .i64 x.y)) b #[.int .i64 x.s, .int .i64 x.n, .int .i64 x.b, .int .i64 x.c, .int .i64 x.a, .int .i64 x.r, .int .i64 x.t, .int .i64 x.y] t := h6.set 7 (.int .i64 x.y)
  exact h7
theorem below_set8 {B : Nat} {w w1 : World} {b : Nat} (h : Below B w w1) (hb : B ≤ b) (x : Itm) : Below B w (set8 w1 b x) := h |>.setCell (p := ⟨b, 0, none⟩) hb (.int .i64 x.s) |>.setCell (p := ⟨b, 1, none⟩) hb (.int .i64 x.n) |>.setCell (p := ⟨b, 2, none⟩) hb (.int .i64 x.b) |>.setCell (p := ⟨b, 3, none⟩) hb (.int .i64 x.c) |>.setCell (p := ⟨b, 4, none⟩) hb (.int .i64 x.a) |>.setCell (p := ⟨b, 5, none⟩) hb (.int .i64 x.r) |>.setCell (p := ⟨b, 6, none⟩) hb (.int .i64 x.t) |>.setCell (p := ⟨b, 7, none⟩) hb (.int .i64 x.y)
theorem blk_set8other {w : World} {b g : Nat} {cs : Array Value} {t : TypeId} (h : Blk w g cs t) (hb : b ≠ g) (x : Itm) : Blk (set8 w b x) g cs t := h |>.setOther (a := ⟨b, 0, none⟩) hb (.int .i64 x.s) |>.setOther (a := ⟨b, 1, none⟩) hb (.int .i64 x.n) |>.setOther (a := ⟨b, 2, none⟩) hb (.int .i64 x.b) |>.setOther (a := ⟨b, 3, none⟩) hb (.int .i64 x.c) |>.setOther (a := ⟨b, 4, none⟩) hb (.int .i64 x.a) |>.setOther (a := ⟨b, 5, none⟩) hb (.int .i64 x.r) |>.setOther (a := ⟨b, 6, none⟩) hb (.int .i64 x.t) |>.setOther (a := ⟨b, 7, none⟩) hb (.int .i64 x.y)
theorem turn_any (x : Itm) (f t : Int) (w : World) : Calls Try.prog 68 #[x.v, .int .i64 f, .int .i64 t] w fun e w' => e = ansI (turnI x f t) ∧ Below w.heap.size w w' := by
  have HB2 : Hid (∀ a b, Below w.heap.size w ((w.alloc a).alloc b)) := fun a b => (oneB w a).alloc (by simp) b
  by_cases h : x.t = f
  · have HC : Hid (turnI x f t = ({ x with t := t }, 0)) := if_pos h
    have e4 : (x.t != f) = false := by simpa using h
    unfold Itm.v at *
    clear h
    go_enter Try.func68, Try.ntmps68
    go_wp2
    refine bodyPost_ret (v := .tuple #[Itm.v { x with t := t }, .int .i64 0]) (by simp [results, Try.results68, go_sem, Itm.v]) rfl ⟨retA HC.out.symm, HB2.out _ _⟩
  · have HC : Hid (turnI x f t = (x, 90)) := if_neg h
    have e4 : (x.t != f) = true := by simpa using h
    unfold Itm.v at *
    clear h
    go_enter Try.func68, Try.ntmps68
    go_wp2
    refine bodyPost_ret (v := .tuple #[Itm.v x, .int .i64 90]) (by simp [results, Try.results68, go_sem, Itm.v]) rfl ⟨retA HC.out.symm, HB2.out _ _⟩
end Go.Proofs.Ytmfodfimglllkaa
