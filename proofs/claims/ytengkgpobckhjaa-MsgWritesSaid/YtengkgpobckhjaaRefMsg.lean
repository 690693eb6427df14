/- contraref11.Write by contract: the document's bytes of a message. -/
import Derived.Test.YtengkgpobckhjaaMsgWrite
import Derived.Test.YtengkgpobckhjaaRefNum
import Derived.Test.YtengkgpobckhjaaMsgSame
import Derived.Deep.RegionHeld3
namespace Go.Proofs.Ytengkgpobckhjaa
open Go.RowKit
set_option linter.unusedSimpArgs false
theorem small_any (z : Int) (w : World) : Calls Try.prog 27 #[.int .i64 z] w fun e w' => e = .returned (.bool (okN z)) ∧ w = w' := by
  go_enter Try.func27, Try.ntmps27
  go_wp2
  all_goals
    go_ret
    refine ⟨?_, rfl⟩
    congr 1
    simp [okN]
    try omega
theorem refbool_any (b : Bool) (w : World) : Calls Try.prog 29 #[.bool b] w fun e w' => e = .returned (.string (strOfNums (boL b))) ∧ w = w' := by
  cases b
  all_goals
    go_enter Try.func29, Try.ntmps29
    go_wp2
    go_ret
    exact ⟨rfl, rfl⟩
set_option maxHeartbeats 8000000 in
set_option maxRecDepth 100000 in
theorem refwrite_kind1 (m : Msg) (pl : Option Addr) (nl cl : Nat) (pn : Option Addr) (nn cn : Nat) (w : World) (h : m.k < 1) :
    Calls Try.prog 13 #[.agg #[.int .i64 m.k, .int .i64 m.s, .int .i64 m.n, .int .i64 m.b, .int .i64 m.c, .int .i64 m.r, .int .i64 m.y, .int .i64 m.a, .bool m.t, .slice pl nl cl, .slice pn nn cn]] w fun e w' => e = .returned (.tuple #[.string ⟨#[]⟩, .int .i64 110]) ∧ Below w.heap.size w w' := by
  go_enter Try.func13, Try.ntmps13
  go_wp2_with fail
  go_ret2
  exact ⟨rfl, oneB w _⟩
set_option maxHeartbeats 8000000 in
set_option maxRecDepth 100000 in
theorem refwrite_kind2 (m : Msg) (pl : Option Addr) (nl cl : Nat) (pn : Option Addr) (nn cn : Nat) (w : World) (h0 : ¬ m.k < 1) (h : 16 < m.k) :
    Calls Try.prog 13 #[.agg #[.int .i64 m.k, .int .i64 m.s, .int .i64 m.n, .int .i64 m.b, .int .i64 m.c, .int .i64 m.r, .int .i64 m.y, .int .i64 m.a, .bool m.t, .slice pl nl cl, .slice pn nn cn]] w fun e w' => e = .returned (.tuple #[.string ⟨#[]⟩, .int .i64 110]) ∧ Below w.heap.size w w' := by
  go_enter Try.func13, Try.ntmps13
  go_wp2_with fail
  go_ret2
  exact ⟨rfl, oneB w _⟩
set_option maxHeartbeats 8000000 in
set_option maxRecDepth 100000 in
theorem refwrite_long1 (m : Msg) (pl : Option Addr) (nl cl : Nat) (pn : Option Addr) (nn cn : Nat) (w : World) (h0 : ¬ m.k < 1) (h1 : ¬ 16 < m.k) (h : (1024 : Int) < (nl : Int)) :
    Calls Try.prog 13 #[.agg #[.int .i64 m.k, .int .i64 m.s, .int .i64 m.n, .int .i64 m.b, .int .i64 m.c, .int .i64 m.r, .int .i64 m.y, .int .i64 m.a, .bool m.t, .slice pl nl cl, .slice pn nn cn]] w fun e w' => e = .returned (.tuple #[.string ⟨#[]⟩, .int .i64 2]) ∧ Below w.heap.size w w' := by
  go_enter Try.func13, Try.ntmps13
  go_wp2_with fail
  go_ret2
  exact ⟨rfl, oneB w _⟩
set_option maxHeartbeats 8000000 in
set_option maxRecDepth 100000 in
theorem refwrite_long2 (m : Msg) (pl : Option Addr) (nl cl : Nat) (pn : Option Addr) (nn cn : Nat) (w : World) (h0 : ¬ m.k < 1) (h1 : ¬ 16 < m.k) (h2 : ¬ (1024 : Int) < (nl : Int)) (h : (8 : Int) < (nn : Int)) :
    Calls Try.prog 13 #[.agg #[.int .i64 m.k, .int .i64 m.s, .int .i64 m.n, .int .i64 m.b, .int .i64 m.c, .int .i64 m.r, .int .i64 m.y, .int .i64 m.a, .bool m.t, .slice pl nl cl, .slice pn nn cn]] w fun e w' => e = .returned (.tuple #[.string ⟨#[]⟩, .int .i64 2]) ∧ Below w.heap.size w w' := by
  go_enter Try.func13, Try.ntmps13
  go_wp2_with fail
  go_ret2
  exact ⟨rfl, oneB w _⟩
set_option maxHeartbeats 8000000 in
set_option maxRecDepth 100000 in
theorem refwrite_num0 (m : Msg) (pl : Option Addr) (nl cl : Nat) (pn : Option Addr) (nn cn : Nat) (w : World) (h0 : ¬ m.k < 1) (h1 : ¬ 16 < m.k) (h2 : ¬ (1024 : Int) < (nl : Int)) (h3 : ¬ (8 : Int) < (nn : Int))  (g0 : okN m.s = false) :
    Calls Try.prog 13 #[.agg #[.int .i64 m.k, .int .i64 m.s, .int .i64 m.n, .int .i64 m.b, .int .i64 m.c, .int .i64 m.r, .int .i64 m.y, .int .i64 m.a, .bool m.t, .slice pl nl cl, .slice pn nn cn]] w fun e w' => e = .returned (.tuple #[.string ⟨#[]⟩, .int .i64 1]) ∧ Below w.heap.size w w' := by
  have G0 := Lib.hid g0
  clear g0
  go_enter Try.func13, Try.ntmps13
  go_wp2_with fail
  refine (small_any m.s _).mono ?_
  rintro y w2 ⟨rfl, rfl⟩
  rw [G0.out]
  go_wp2_with fail
  go_ret2
  exact ⟨rfl, oneB w _⟩
set_option maxHeartbeats 8000000 in
set_option maxRecDepth 100000 in
theorem refwrite_num1 (m : Msg) (pl : Option Addr) (nl cl : Nat) (pn : Option Addr) (nn cn : Nat) (w : World) (h0 : ¬ m.k < 1) (h1 : ¬ 16 < m.k) (h2 : ¬ (1024 : Int) < (nl : Int)) (h3 : ¬ (8 : Int) < (nn : Int)) (g0 : okN m.s = true) (g1 : okN m.n = false) :
    Calls Try.prog 13 #[.agg #[.int .i64 m.k, .int .i64 m.s, .int .i64 m.n, .int .i64 m.b, .int .i64 m.c, .int .i64 m.r, .int .i64 m.y, .int .i64 m.a, .bool m.t, .slice pl nl cl, .slice pn nn cn]] w fun e w' => e = .returned (.tuple #[.string ⟨#[]⟩, .int .i64 1]) ∧ Below w.heap.size w w' := by
  have G0 := Lib.hid g0
  have G1 := Lib.hid g1
  clear g0 g1
  go_enter Try.func13, Try.ntmps13
  go_wp2_with fail
  refine (small_any m.s _).mono ?_
  rintro y w2 ⟨rfl, rfl⟩
  rw [G0.out]
  go_wp2_with fail
  refine (small_any m.n _).mono ?_
  rintro y w2 ⟨rfl, rfl⟩
  rw [G1.out]
  go_wp2_with fail
  go_ret2
  exact ⟨rfl, oneB w _⟩
set_option maxHeartbeats 8000000 in
set_option maxRecDepth 100000 in
theorem refwrite_num2 (m : Msg) (pl : Option Addr) (nl cl : Nat) (pn : Option Addr) (nn cn : Nat) (w : World) (h0 : ¬ m.k < 1) (h1 : ¬ 16 < m.k) (h2 : ¬ (1024 : Int) < (nl : Int)) (h3 : ¬ (8 : Int) < (nn : Int)) (g0 : okN m.s = true) (g1 : okN m.n = true) (g2 : okN m.b = false) :
    Calls Try.prog 13 #[.agg #[.int .i64 m.k, .int .i64 m.s, .int .i64 m.n, .int .i64 m.b, .int .i64 m.c, .int .i64 m.r, .int .i64 m.y, .int .i64 m.a, .bool m.t, .slice pl nl cl, .slice pn nn cn]] w fun e w' => e = .returned (.tuple #[.string ⟨#[]⟩, .int .i64 1]) ∧ Below w.heap.size w w' := by
  have G0 := Lib.hid g0
  have G1 := Lib.hid g1
  have G2 := Lib.hid g2
  clear g0 g1 g2
  go_enter Try.func13, Try.ntmps13
  go_wp2_with fail
  refine (small_any m.s _).mono ?_
  rintro y w2 ⟨rfl, rfl⟩
  rw [G0.out]
  go_wp2_with fail
  refine (small_any m.n _).mono ?_
  rintro y w2 ⟨rfl, rfl⟩
  rw [G1.out]
  go_wp2_with fail
  refine (small_any m.b _).mono ?_
  rintro y w2 ⟨rfl, rfl⟩
  rw [G2.out]
  go_wp2_with fail
  go_ret2
  exact ⟨rfl, oneB w _⟩
set_option maxHeartbeats 8000000 in
set_option maxRecDepth 100000 in
theorem refwrite_num3 (m : Msg) (pl : Option Addr) (nl cl : Nat) (pn : Option Addr) (nn cn : Nat) (w : World) (h0 : ¬ m.k < 1) (h1 : ¬ 16 < m.k) (h2 : ¬ (1024 : Int) < (nl : Int)) (h3 : ¬ (8 : Int) < (nn : Int)) (g0 : okN m.s = true) (g1 : okN m.n = true) (g2 : okN m.b = true) (g3 : okN m.c = false) :
    Calls Try.prog 13 #[.agg #[.int .i64 m.k, .int .i64 m.s, .int .i64 m.n, .int .i64 m.b, .int .i64 m.c, .int .i64 m.r, .int .i64 m.y, .int .i64 m.a, .bool m.t, .slice pl nl cl, .slice pn nn cn]] w fun e w' => e = .returned (.tuple #[.string ⟨#[]⟩, .int .i64 1]) ∧ Below w.heap.size w w' := by
  have G0 := Lib.hid g0
  have G1 := Lib.hid g1
  have G2 := Lib.hid g2
  have G3 := Lib.hid g3
  clear g0 g1 g2 g3
  go_enter Try.func13, Try.ntmps13
  go_wp2_with fail
  refine (small_any m.s _).mono ?_
  rintro y w2 ⟨rfl, rfl⟩
  rw [G0.out]
  go_wp2_with fail
  refine (small_any m.n _).mono ?_
  rintro y w2 ⟨rfl, rfl⟩
  rw [G1.out]
  go_wp2_with fail
  refine (small_any m.b _).mono ?_
  rintro y w2 ⟨rfl, rfl⟩
  rw [G2.out]
  go_wp2_with fail
  refine (small_any m.c _).mono ?_
  rintro y w2 ⟨rfl, rfl⟩
  rw [G3.out]
  go_wp2_with fail
  go_ret2
  exact ⟨rfl, oneB w _⟩
set_option maxHeartbeats 8000000 in
set_option maxRecDepth 100000 in
theorem refwrite_num4 (m : Msg) (pl : Option Addr) (nl cl : Nat) (pn : Option Addr) (nn cn : Nat) (w : World) (h0 : ¬ m.k < 1) (h1 : ¬ 16 < m.k) (h2 : ¬ (1024 : Int) < (nl : Int)) (h3 : ¬ (8 : Int) < (nn : Int)) (g0 : okN m.s = true) (g1 : okN m.n = true) (g2 : okN m.b = true) (g3 : okN m.c = true) (g4 : okN m.r = false) :
    Calls Try.prog 13 #[.agg #[.int .i64 m.k, .int .i64 m.s, .int .i64 m.n, .int .i64 m.b, .int .i64 m.c, .int .i64 m.r, .int .i64 m.y, .int .i64 m.a, .bool m.t, .slice pl nl cl, .slice pn nn cn]] w fun e w' => e = .returned (.tuple #[.string ⟨#[]⟩, .int .i64 1]) ∧ Below w.heap.size w w' := by
  have G0 := Lib.hid g0
  have G1 := Lib.hid g1
  have G2 := Lib.hid g2
  have G3 := Lib.hid g3
  have G4 := Lib.hid g4
  clear g0 g1 g2 g3 g4
  go_enter Try.func13, Try.ntmps13
  go_wp2_with fail
  refine (small_any m.s _).mono ?_
  rintro y w2 ⟨rfl, rfl⟩
  rw [G0.out]
  go_wp2_with fail
  refine (small_any m.n _).mono ?_
  rintro y w2 ⟨rfl, rfl⟩
  rw [G1.out]
  go_wp2_with fail
  refine (small_any m.b _).mono ?_
  rintro y w2 ⟨rfl, rfl⟩
  rw [G2.out]
  go_wp2_with fail
  refine (small_any m.c _).mono ?_
  rintro y w2 ⟨rfl, rfl⟩
  rw [G3.out]
  go_wp2_with fail
  refine (small_any m.r _).mono ?_
  rintro y w2 ⟨rfl, rfl⟩
  rw [G4.out]
  go_wp2_with fail
  go_ret2
  exact ⟨rfl, oneB w _⟩
set_option maxHeartbeats 8000000 in
set_option maxRecDepth 100000 in
theorem refwrite_num5 (m : Msg) (pl : Option Addr) (nl cl : Nat) (pn : Option Addr) (nn cn : Nat) (w : World) (h0 : ¬ m.k < 1) (h1 : ¬ 16 < m.k) (h2 : ¬ (1024 : Int) < (nl : Int)) (h3 : ¬ (8 : Int) < (nn : Int)) (g0 : okN m.s = true) (g1 : okN m.n = true) (g2 : okN m.b = true) (g3 : okN m.c = true) (g4 : okN m.r = true) (g5 : okN m.y = false) :
    Calls Try.prog 13 #[.agg #[.int .i64 m.k, .int .i64 m.s, .int .i64 m.n, .int .i64 m.b, .int .i64 m.c, .int .i64 m.r, .int .i64 m.y, .int .i64 m.a, .bool m.t, .slice pl nl cl, .slice pn nn cn]] w fun e w' => e = .returned (.tuple #[.string ⟨#[]⟩, .int .i64 1]) ∧ Below w.heap.size w w' := by
  have G0 := Lib.hid g0
  have G1 := Lib.hid g1
  have G2 := Lib.hid g2
  have G3 := Lib.hid g3
  have G4 := Lib.hid g4
  have G5 := Lib.hid g5
  clear g0 g1 g2 g3 g4 g5
  go_enter Try.func13, Try.ntmps13
  go_wp2_with fail
  refine (small_any m.s _).mono ?_
  rintro y w2 ⟨rfl, rfl⟩
  rw [G0.out]
  go_wp2_with fail
  refine (small_any m.n _).mono ?_
  rintro y w2 ⟨rfl, rfl⟩
  rw [G1.out]
  go_wp2_with fail
  refine (small_any m.b _).mono ?_
  rintro y w2 ⟨rfl, rfl⟩
  rw [G2.out]
  go_wp2_with fail
  refine (small_any m.c _).mono ?_
  rintro y w2 ⟨rfl, rfl⟩
  rw [G3.out]
  go_wp2_with fail
  refine (small_any m.r _).mono ?_
  rintro y w2 ⟨rfl, rfl⟩
  rw [G4.out]
  go_wp2_with fail
  refine (small_any m.y _).mono ?_
  rintro y w2 ⟨rfl, rfl⟩
  rw [G5.out]
  go_wp2_with fail
  go_ret2
  exact ⟨rfl, oneB w _⟩
/-- The first part: up to the number of lines. -/
def fstL (m : Msg) : List Int := numL m.k ++ (numL m.s ++ (numL m.n ++ (numL m.b ++ (numL m.c ++ (numL m.r ++ (numL m.y ++ (numL m.a ++ (boL m.t ++ numL m.ls.length))))))))
/-- Behind k lines. -/
def RW1 (W0 : World) (m : Msg) (k : Nat) (v : Value) (wr : World) : Prop := v = .string (strOfNums (fstL m ++ (m.ls.take k).flatMap linL)) ∧ (∀ x ∈ m.ls.take k, x.ok = true) ∧ Below W0.heap.size W0 wr
def RW2 (W0 : World) (m : Msg) (k : Nat) (v : Value) (wr : World) : Prop := v = .string (strOfNums ((fstL m ++ (m.ls.flatMap linL ++ numL m.ns.length)) ++ (m.ns.take k).flatMap numL)) ∧ Below W0.heap.size W0 wr
theorem fstL_len {m : Msg} (hF : m.Fit) (h : m.ls.length ≤ 1024) : (fstL m).length ≤ 100 := by
  obtain ⟨⟨f1, f2, f3, f4, f5, f6, f7, f8⟩, _, _⟩ := hF
  have a1 := numL_len f1.1 f1.2
  have a2 := numL_len f2.1 f2.2
  have a3 := numL_len f3.1 f3.2
  have a4 := numL_len f4.1 f4.2
  have a5 := numL_len f5.1 f5.2
  have a6 := numL_len f6.1 f6.2
  have a7 := numL_len f7.1 f7.2
  have a8 := numL_len f8.1 f8.2
  have c1 := numL_len (n := (m.ls.length : Int)) (by omega) (by omega)
  simp only [fstL, boL, List.length_append, List.length_cons, List.length_nil]
  omega
set_option maxHeartbeats 16000000 in
set_option maxRecDepth 100000 in
theorem refwrite_ok (m : Msg) (pl : Option Addr) (nl cl : Nat) (pn : Option Addr) (nn cn : Nat) (w : World) (h0 : ¬ m.k < 1) (h1 : ¬ 16 < m.k) (hnl : m.ls.length = nl) (hnn : m.ns.length = nn) (h2 : ¬ (1024 : Int) < (nl : Int)) (h3 : ¬ (8 : Int) < (nn : Int)) (g0 : okN m.s = true) (g1 : okN m.n = true) (g2 : okN m.b = true) (g3 : okN m.c = true) (g4 : okN m.r = true) (g5 : okN m.y = true) (hF : m.Fit) (hl : TRow encN w (.slice pl nl cl) m.ls) (hn : Row .i64 w (.slice pn nn cn) m.ns) :
    Calls Try.prog 13 #[.agg #[.int .i64 m.k, .int .i64 m.s, .int .i64 m.n, .int .i64 m.b, .int .i64 m.c, .int .i64 m.r, .int .i64 m.y, .int .i64 m.a, .bool m.t, .slice pl nl cl, .slice pn nn cn]] w fun e w' => e = .returned (.tuple #[.string (strOfNums (if m.ls.all Lin.ok = true then msgL m else [])), .int .i64 (if m.ls.all Lin.ok = true then 0 else 1)]) ∧ Below w.heap.size w w' := by
  have G0 := Lib.hid g0
  have G1 := Lib.hid g1
  have G2 := Lib.hid g2
  have G3 := Lib.hid g3
  have G4 := Lib.hid g4
  have G5 := Lib.hid g5
  have HF := Lib.hid hF
  have HLR := Lib.hid hl
  have HNR := Lib.hid hn
  have HNL := Lib.hid hnl
  have HNN := Lib.hid hnn
  have Fa : m.ls.length ≤ 1024 := by omega
  have HFA := Lib.hid Fa
  have B0 := Lib.hid (oneB w (.cells #[.int .i64 m.k, .int .i64 m.s, .int .i64 m.n, .int .i64 m.b, .int .i64 m.c, .int .i64 m.r, .int .i64 m.y, .int .i64 m.a, .bool m.t, .slice pl nl cl, .slice pn nn cn] 28))
  have HK0 := Lib.hid (Blk.new w #[.int .i64 m.k, .int .i64 m.s, .int .i64 m.n, .int .i64 m.b, .int .i64 m.c, .int .i64 m.r, .int .i64 m.y, .int .i64 m.a, .bool m.t, .slice pl nl cl, .slice pn nn cn] 28)
  clear g0 g1 g2 g3 g4 g5 hF hl hn hnl hnn Fa
  generalize hans : (if m.ls.all Lin.ok = true then msgL m else []) = ANS at *
  generalize herr : (if m.ls.all Lin.ok = true then (0 : Int) else 1) = ERR at *
  have HANS := Lib.hid hans
  have HERR := Lib.hid herr
  clear hans herr
  go_enter Try.func13, Try.ntmps13
  go_wp2_with fail
  refine (small_any m.s _).mono ?_
  rintro y w2 ⟨rfl, rfl⟩
  rw [G0.out]
  go_wp2_with fail
  refine (small_any m.n _).mono ?_
  rintro y w2 ⟨rfl, rfl⟩
  rw [G1.out]
  go_wp2_with fail
  refine (small_any m.b _).mono ?_
  rintro y w2 ⟨rfl, rfl⟩
  rw [G2.out]
  go_wp2_with fail
  refine (small_any m.c _).mono ?_
  rintro y w2 ⟨rfl, rfl⟩
  rw [G3.out]
  go_wp2_with fail
  refine (small_any m.r _).mono ?_
  rintro y w2 ⟨rfl, rfl⟩
  rw [G4.out]
  go_wp2_with fail
  refine (small_any m.y _).mono ?_
  rintro y w2 ⟨rfl, rfl⟩
  rw [G5.out]
  go_wp2_with fail
  generalize w.alloc (.cells #[.int .i64 m.k, .int .i64 m.s, .int .i64 m.n, .int .i64 m.b, .int .i64 m.c, .int .i64 m.r, .int .i64 m.y, .int .i64 m.a, .bool m.t, .slice pl nl cl, .slice pn nn cn] 28) = W0 at *
  have HS : Hid (∀ w', Below W0.heap.size W0 w' → w'.cell? ⟨w.heap.size, 0, none⟩ = some (.int .i64 m.k) ∧ w'.cell? ⟨w.heap.size, 1, none⟩ = some (.int .i64 m.s) ∧ w'.cell? ⟨w.heap.size, 2, none⟩ = some (.int .i64 m.n) ∧ w'.cell? ⟨w.heap.size, 3, none⟩ = some (.int .i64 m.b) ∧ w'.cell? ⟨w.heap.size, 4, none⟩ = some (.int .i64 m.c) ∧ w'.cell? ⟨w.heap.size, 5, none⟩ = some (.int .i64 m.r) ∧ w'.cell? ⟨w.heap.size, 6, none⟩ = some (.int .i64 m.y) ∧ w'.cell? ⟨w.heap.size, 7, none⟩ = some (.int .i64 m.a) ∧ w'.cell? ⟨w.heap.size, 8, none⟩ = some (.bool m.t) ∧ w'.cell? ⟨w.heap.size, 9, none⟩ = some (.slice pl nl cl) ∧ w'.cell? ⟨w.heap.size, 10, none⟩ = some (.slice pn nn cn)) :=
    fun w' hb => ⟨(HK0.out.below hb HK0.out.lt).cell 0, (HK0.out.below hb HK0.out.lt).cell 1, (HK0.out.below hb HK0.out.lt).cell 2, (HK0.out.below hb HK0.out.lt).cell 3, (HK0.out.below hb HK0.out.lt).cell 4, (HK0.out.below hb HK0.out.lt).cell 5, (HK0.out.below hb HK0.out.lt).cell 6, (HK0.out.below hb HK0.out.lt).cell 7, (HK0.out.below hb HK0.out.lt).cell 8, (HK0.out.below hb HK0.out.lt).cell 9, (HK0.out.below hb HK0.out.lt).cell 10⟩
  have B1 : Hid (Below W0.heap.size W0 W0.drew) := (Below.refl _ W0).drew
  have hS1 := HS.out W0.drew B1.out
  have hA : ∀ a b : List Int, strOfNums a ++ strOfNums b = strOfNums (a ++ b) := strOfNums_append
  have hZ : ∀ a : List Int, (strOfNums a).size = a.length := strOfNums_size
  have lk := numL_len HF.out.1.1.1 HF.out.1.1.2
  have ls := numL_len HF.out.1.2.1.1 HF.out.1.2.1.2
  have ln := numL_len HF.out.1.2.2.1.1 HF.out.1.2.2.1.2
  have lb := numL_len HF.out.1.2.2.2.1.1 HF.out.1.2.2.2.1.2
  have lc := numL_len HF.out.1.2.2.2.2.1.1 HF.out.1.2.2.2.2.1.2
  have lr := numL_len HF.out.1.2.2.2.2.2.1.1 HF.out.1.2.2.2.2.2.1.2
  have ly := numL_len HF.out.1.2.2.2.2.2.2.1.1 HF.out.1.2.2.2.2.2.2.1.2
  have la := numL_len HF.out.1.2.2.2.2.2.2.2.1 HF.out.1.2.2.2.2.2.2.2.2
  have lL := numL_len (n := (nl : Int)) (by omega) (by omega)
  have lt_ : (boL m.t).length = 1 := rfl
  have q2 : ¬ 9223372036854775807 < (numL m.k).length + (numL m.s).length := by omega
  have q3 : ¬ 9223372036854775807 < ((numL m.k).length + (numL m.s).length) + (numL m.n).length := by omega
  have q4 : ¬ 9223372036854775807 < ((numL m.k).length + ((numL m.s).length + (numL m.n).length)) + (numL m.b).length := by omega
  have q5 : ¬ 9223372036854775807 < ((numL m.k).length + ((numL m.s).length + ((numL m.n).length + (numL m.b).length))) + (numL m.c).length := by omega
  have q6 : ¬ 9223372036854775807 < ((numL m.k).length + ((numL m.s).length + ((numL m.n).length + ((numL m.b).length + (numL m.c).length)))) + (numL m.r).length := by omega
  have q7 : ¬ 9223372036854775807 < ((numL m.k).length + ((numL m.s).length + ((numL m.n).length + ((numL m.b).length + ((numL m.c).length + (numL m.r).length))))) + (numL m.y).length := by omega
  have q8 : ¬ 9223372036854775807 < (numL m.a).length + (boL m.t).length := by omega
  have q9 : ¬ 9223372036854775807 < ((numL m.a).length + (boL m.t).length) + (numL (nl : Int)).length := by omega
  have q10 : ¬ 9223372036854775807 < ((numL m.k).length + ((numL m.s).length + ((numL m.n).length + ((numL m.b).length + ((numL m.c).length + ((numL m.r).length + (numL m.y).length)))))) + ((numL m.a).length + ((boL m.t).length + (numL (nl : Int)).length)) := by omega
  have QS := Lib.hid (And.intro q2 q10)
  clear lk ls ln lb lc lr ly la lL lt_ QS
  have hl1 : -9223372036854775808 ≤ (nl : Int) ∧ (nl : Int) ≤ 9223372036854775807 := by omega
  have HL1 := Lib.hid hl1
  clear hl1
  refine wp_region_held_drew (S := fun w' => w'.cell? ⟨w.heap.size, 0, none⟩ = some (.int .i64 m.k) ∧ w'.cell? ⟨w.heap.size, 1, none⟩ = some (.int .i64 m.s) ∧ w'.cell? ⟨w.heap.size, 2, none⟩ = some (.int .i64 m.n) ∧ w'.cell? ⟨w.heap.size, 3, none⟩ = some (.int .i64 m.b) ∧ w'.cell? ⟨w.heap.size, 4, none⟩ = some (.int .i64 m.c) ∧ w'.cell? ⟨w.heap.size, 5, none⟩ = some (.int .i64 m.r) ∧ w'.cell? ⟨w.heap.size, 6, none⟩ = some (.int .i64 m.y) ∧ w'.cell? ⟨w.heap.size, 7, none⟩ = some (.int .i64 m.a) ∧ w'.cell? ⟨w.heap.size, 8, none⟩ = some (.bool m.t) ∧ w'.cell? ⟨w.heap.size, 9, none⟩ = some (.slice pl nl cl) ∧ w'.cell? ⟨w.heap.size, 10, none⟩ = some (.slice pn nn cn)) (by kernel_rfl) hS1 (fun hS0 => ?_)
  refine wpAnyH_take (i := 0) (v := ?_) rfl (by kernel_rfl) (by kernel_rfl) (by kernel_rfl) (fun _ _ _ h => h) (Or.inl ⟨by kernel_rfl, ?_⟩) (by first | assumption | trivial) ?_
  rotate_left
  · intro w hSw
    try dsimp only at hSw
    first | (go_simp; done) | (go_simp; with_reducible rfl)
  try simp only [Act.put, List.getElem_toArray, List.getElem_cons_succ, List.getElem_cons_zero, List.setIfInBounds_toArray, List.set_cons_zero, List.set_cons_succ]
  refine wpAnyH_take (i := 1) (v := ?_) rfl (by kernel_rfl) (by kernel_rfl) (by kernel_rfl) (fun _ _ _ h => h) (Or.inl ⟨by kernel_rfl, ?_⟩) (by first | assumption | trivial) ?_
  rotate_left
  · intro w hSw
    try dsimp only at hSw
    first | (go_simp; done) | (go_simp; with_reducible rfl)
  try simp only [Act.put, List.getElem_toArray, List.getElem_cons_succ, List.getElem_cons_zero, List.setIfInBounds_toArray, List.set_cons_zero, List.set_cons_succ]
  refine wpAnyH_take (i := 3) (v := ?_) rfl (by kernel_rfl) (by kernel_rfl) (by kernel_rfl) (fun _ _ _ h => h) (Or.inl ⟨by kernel_rfl, ?_⟩) (by first | assumption | trivial) ?_
  rotate_left
  · intro w hSw
    try dsimp only at hSw
    first | (go_simp; done) | (go_simp; with_reducible rfl)
  try simp only [Act.put, List.getElem_toArray, List.getElem_cons_succ, List.getElem_cons_zero, List.setIfInBounds_toArray, List.set_cons_zero, List.set_cons_succ]
  refine wpAnyH_take (i := 4) (v := ?_) rfl (by kernel_rfl) (by kernel_rfl) (by kernel_rfl) (fun _ _ _ h => h) (Or.inl ⟨by kernel_rfl, ?_⟩) (by first | assumption | trivial) ?_
  rotate_left
  · intro w hSw
    try dsimp only at hSw
    first | (go_simp; done) | (go_simp; with_reducible rfl)
  try simp only [Act.put, List.getElem_toArray, List.getElem_cons_succ, List.getElem_cons_zero, List.setIfInBounds_toArray, List.set_cons_zero, List.set_cons_succ]
  refine wpAnyH_take (i := 5) (v := ?_) rfl (by kernel_rfl) (by kernel_rfl) (by kernel_rfl) (fun _ _ _ h => h) (Or.inl ⟨by kernel_rfl, ?_⟩) (by first | assumption | trivial) ?_
  rotate_left
  · intro w hSw
    try dsimp only at hSw
    first | (go_simp; done) | (go_simp; with_reducible rfl)
  try simp only [Act.put, List.getElem_toArray, List.getElem_cons_succ, List.getElem_cons_zero, List.setIfInBounds_toArray, List.set_cons_zero, List.set_cons_succ]
  refine wpAnyH_take (i := 8) (v := ?_) rfl (by kernel_rfl) (by kernel_rfl) (by kernel_rfl) (fun _ _ _ h => h) (Or.inl ⟨by kernel_rfl, ?_⟩) (by first | assumption | trivial) ?_
  rotate_left
  · intro w hSw
    try dsimp only at hSw
    first | (go_simp; done) | (go_simp; with_reducible rfl)
  try simp only [Act.put, List.getElem_toArray, List.getElem_cons_succ, List.getElem_cons_zero, List.setIfInBounds_toArray, List.set_cons_zero, List.set_cons_succ]
  refine wpAnyH_take (i := 9) (v := ?_) rfl (by kernel_rfl) (by kernel_rfl) (by kernel_rfl) (fun _ _ _ h => h) (Or.inl ⟨by kernel_rfl, ?_⟩) (by first | assumption | trivial) ?_
  rotate_left
  · intro w hSw
    try dsimp only at hSw
    first | (go_simp; done) | (go_simp; with_reducible rfl)
  try simp only [Act.put, List.getElem_toArray, List.getElem_cons_succ, List.getElem_cons_zero, List.setIfInBounds_toArray, List.set_cons_zero, List.set_cons_succ]
  refine wpAnyH_take (i := 10) (v := ?_) rfl (by kernel_rfl) (by kernel_rfl) (by kernel_rfl) (fun _ _ _ h => h) (Or.inl ⟨by kernel_rfl, ?_⟩) (by first | assumption | trivial) ?_
  rotate_left
  · intro w hSw
    try dsimp only at hSw
    first | (go_simp; done) | (go_simp; with_reducible rfl)
  try simp only [Act.put, List.getElem_toArray, List.getElem_cons_succ, List.getElem_cons_zero, List.setIfInBounds_toArray, List.set_cons_zero, List.set_cons_succ]
  refine wpAnyH_take (i := 13) (v := ?_) rfl (by kernel_rfl) (by kernel_rfl) (by kernel_rfl) (fun _ _ _ h => h) (Or.inl ⟨by kernel_rfl, ?_⟩) (by first | assumption | trivial) ?_
  rotate_left
  · intro w hSw
    try dsimp only at hSw
    first | (go_simp; done) | (go_simp; with_reducible rfl)
  try simp only [Act.put, List.getElem_toArray, List.getElem_cons_succ, List.getElem_cons_zero, List.setIfInBounds_toArray, List.set_cons_zero, List.set_cons_succ]
  refine wpAnyH_take (i := 14) (v := ?_) rfl (by kernel_rfl) (by kernel_rfl) (by kernel_rfl) (fun _ _ _ h => h) (Or.inl ⟨by kernel_rfl, ?_⟩) (by first | assumption | trivial) ?_
  rotate_left
  · intro w hSw
    try dsimp only at hSw
    first | (go_simp; done) | (go_simp; with_reducible rfl)
  try simp only [Act.put, List.getElem_toArray, List.getElem_cons_succ, List.getElem_cons_zero, List.setIfInBounds_toArray, List.set_cons_zero, List.set_cons_succ]
  refine wpAnyH_take (i := 17) (v := ?_) rfl (by kernel_rfl) (by kernel_rfl) (by kernel_rfl) (fun _ _ _ h => h) (Or.inl ⟨by kernel_rfl, ?_⟩) (by first | assumption | trivial) ?_
  rotate_left
  · intro w hSw
    try dsimp only at hSw
    first | (go_simp; done) | (go_simp; with_reducible rfl)
  try simp only [Act.put, List.getElem_toArray, List.getElem_cons_succ, List.getElem_cons_zero, List.setIfInBounds_toArray, List.set_cons_zero, List.set_cons_succ]
  refine wpAnyH_take (i := 18) (v := ?_) rfl (by kernel_rfl) (by kernel_rfl) (by kernel_rfl) (fun _ _ _ h => h) (Or.inl ⟨by kernel_rfl, ?_⟩) (by first | assumption | trivial) ?_
  rotate_left
  · intro w hSw
    try dsimp only at hSw
    first | (go_simp; done) | (go_simp; with_reducible rfl)
  try simp only [Act.put, List.getElem_toArray, List.getElem_cons_succ, List.getElem_cons_zero, List.setIfInBounds_toArray, List.set_cons_zero, List.set_cons_succ]
  refine wpAnyH_take (i := 21) (v := ?_) rfl (by kernel_rfl) (by kernel_rfl) (by kernel_rfl) (fun _ _ _ h => h) (Or.inl ⟨by kernel_rfl, ?_⟩) (by first | assumption | trivial) ?_
  rotate_left
  · intro w hSw
    try dsimp only at hSw
    first | (go_simp; done) | (go_simp; with_reducible rfl)
  try simp only [Act.put, List.getElem_toArray, List.getElem_cons_succ, List.getElem_cons_zero, List.setIfInBounds_toArray, List.set_cons_zero, List.set_cons_succ]
  refine wpAnyH_take (i := 22) (v := ?_) rfl (by kernel_rfl) (by kernel_rfl) (by kernel_rfl) (fun _ _ _ h => h) (Or.inl ⟨by kernel_rfl, ?_⟩) (by first | assumption | trivial) ?_
  rotate_left
  · intro w hSw
    try dsimp only at hSw
    first | (go_simp; done) | (go_simp; with_reducible rfl)
  try simp only [Act.put, List.getElem_toArray, List.getElem_cons_succ, List.getElem_cons_zero, List.setIfInBounds_toArray, List.set_cons_zero, List.set_cons_succ]
  refine wpAnyH_take (i := 25) (v := ?_) rfl (by kernel_rfl) (by kernel_rfl) (by kernel_rfl) (fun _ _ _ h => h) (Or.inl ⟨by kernel_rfl, ?_⟩) (by first | assumption | trivial) ?_
  rotate_left
  · intro w hSw
    try dsimp only at hSw
    first | (go_simp; done) | (go_simp; with_reducible rfl)
  try simp only [Act.put, List.getElem_toArray, List.getElem_cons_succ, List.getElem_cons_zero, List.setIfInBounds_toArray, List.set_cons_zero, List.set_cons_succ]
  refine wpAnyH_take (i := 26) (v := ?_) rfl (by kernel_rfl) (by kernel_rfl) (by kernel_rfl) (fun _ _ _ h => h) (Or.inl ⟨by kernel_rfl, ?_⟩) (by first | assumption | trivial) ?_
  rotate_left
  · intro w hSw
    try dsimp only at hSw
    first | (go_simp; done) | (go_simp; with_reducible rfl)
  try simp only [Act.put, List.getElem_toArray, List.getElem_cons_succ, List.getElem_cons_zero, List.setIfInBounds_toArray, List.set_cons_zero, List.set_cons_succ]
  refine wpAnyH_ready (rs := [2]) (by kernel_rfl) (by simp) ?_
  refine AllReadyH.cons rfl (fun K hK => ?_) AllReadyH.nil
  go_simp
  go_at_call 28
  refine (refnum_any m.k _ HF.out.1.1.1 HF.out.1.1.2).mono ?_
  rintro y w2 ⟨rfl, hb2⟩
  have B2 := Lib.hid (B1.out.trans (hb2.mono B1.out.size))
  clear hb2
  try go_wp2_with fail
  refine hK.out _ _ (HS.out _ B2.out) (fun hS => ?_)
  clear hK K
  try simp only [Act.put, List.getElem_toArray, List.getElem_cons_succ, List.getElem_cons_zero, List.setIfInBounds_toArray, List.set_cons_zero, List.set_cons_succ]
  refine wpAnyH_ready (rs := [6]) (by kernel_rfl) (by simp) ?_
  refine AllReadyH.cons rfl (fun K hK => ?_) AllReadyH.nil
  go_simp
  go_at_call 28
  refine (refnum_any m.s _ HF.out.1.2.1.1 HF.out.1.2.1.2).mono ?_
  rintro y w3 ⟨rfl, hb3⟩
  have B3 := Lib.hid (B2.out.trans (hb3.mono B2.out.size))
  clear hb3
  try go_wp2_with fail
  refine hK.out _ _ (HS.out _ B3.out) (fun hS => ?_)
  clear hK K
  try simp only [Act.put, List.getElem_toArray, List.getElem_cons_succ, List.getElem_cons_zero, List.setIfInBounds_toArray, List.set_cons_zero, List.set_cons_succ]
  refine wpAnyH_take (i := 7) (v := ?_) rfl (by kernel_rfl) (by kernel_rfl) (by kernel_rfl) (fun _ _ _ h => h) (Or.inl ⟨by kernel_rfl, ?_⟩) (by first | assumption | trivial) ?_
  rotate_left
  · intro w hSw
    try dsimp only at hSw
    first | (go_simp; done) | (go_simp; with_reducible rfl)
  try simp only [Act.put, List.getElem_toArray, List.getElem_cons_succ, List.getElem_cons_zero, List.setIfInBounds_toArray, List.set_cons_zero, List.set_cons_succ]
  refine wpAnyH_ready (rs := [11]) (by kernel_rfl) (by simp) ?_
  refine AllReadyH.cons rfl (fun K hK => ?_) AllReadyH.nil
  go_simp
  go_at_call 28
  refine (refnum_any m.n _ HF.out.1.2.2.1.1 HF.out.1.2.2.1.2).mono ?_
  rintro y w4 ⟨rfl, hb4⟩
  have B4 := Lib.hid (B3.out.trans (hb4.mono B3.out.size))
  clear hb4
  try go_wp2_with fail
  refine hK.out _ _ (HS.out _ B4.out) (fun hS => ?_)
  clear hK K
  try simp only [Act.put, List.getElem_toArray, List.getElem_cons_succ, List.getElem_cons_zero, List.setIfInBounds_toArray, List.set_cons_zero, List.set_cons_succ]
  refine wpAnyH_take (i := 12) (v := ?_) rfl (by kernel_rfl) (by kernel_rfl) (by kernel_rfl) (fun _ _ _ h => h) (Or.inl ⟨by kernel_rfl, ?_⟩) (by first | assumption | trivial) ?_
  rotate_left
  · intro w hSw
    try dsimp only at hSw
    first | (go_simp; done) | (go_simp; with_reducible rfl)
  try simp only [Act.put, List.getElem_toArray, List.getElem_cons_succ, List.getElem_cons_zero, List.setIfInBounds_toArray, List.set_cons_zero, List.set_cons_succ]
  refine wpAnyH_ready (rs := [15]) (by kernel_rfl) (by simp) ?_
  refine AllReadyH.cons rfl (fun K hK => ?_) AllReadyH.nil
  go_simp
  go_at_call 28
  refine (refnum_any m.b _ HF.out.1.2.2.2.1.1 HF.out.1.2.2.2.1.2).mono ?_
  rintro y w5 ⟨rfl, hb5⟩
  have B5 := Lib.hid (B4.out.trans (hb5.mono B4.out.size))
  clear hb5
  try go_wp2_with fail
  refine hK.out _ _ (HS.out _ B5.out) (fun hS => ?_)
  clear hK K
  try simp only [Act.put, List.getElem_toArray, List.getElem_cons_succ, List.getElem_cons_zero, List.setIfInBounds_toArray, List.set_cons_zero, List.set_cons_succ]
  refine wpAnyH_take (i := 16) (v := ?_) rfl (by kernel_rfl) (by kernel_rfl) (by kernel_rfl) (fun _ _ _ h => h) (Or.inl ⟨by kernel_rfl, ?_⟩) (by first | assumption | trivial) ?_
  rotate_left
  · intro w hSw
    try dsimp only at hSw
    first | (go_simp; done) | (go_simp; with_reducible rfl)
  try simp only [Act.put, List.getElem_toArray, List.getElem_cons_succ, List.getElem_cons_zero, List.setIfInBounds_toArray, List.set_cons_zero, List.set_cons_succ]
  refine wpAnyH_ready (rs := [19]) (by kernel_rfl) (by simp) ?_
  refine AllReadyH.cons rfl (fun K hK => ?_) AllReadyH.nil
  go_simp
  go_at_call 28
  refine (refnum_any m.c _ HF.out.1.2.2.2.2.1.1 HF.out.1.2.2.2.2.1.2).mono ?_
  rintro y w6 ⟨rfl, hb6⟩
  have B6 := Lib.hid (B5.out.trans (hb6.mono B5.out.size))
  clear hb6
  try go_wp2_with fail
  refine hK.out _ _ (HS.out _ B6.out) (fun hS => ?_)
  clear hK K
  try simp only [Act.put, List.getElem_toArray, List.getElem_cons_succ, List.getElem_cons_zero, List.setIfInBounds_toArray, List.set_cons_zero, List.set_cons_succ]
  refine wpAnyH_take (i := 20) (v := ?_) rfl (by kernel_rfl) (by kernel_rfl) (by kernel_rfl) (fun _ _ _ h => h) (Or.inl ⟨by kernel_rfl, ?_⟩) (by first | assumption | trivial) ?_
  rotate_left
  · intro w hSw
    try dsimp only at hSw
    first | (go_simp; done) | (go_simp; with_reducible rfl)
  try simp only [Act.put, List.getElem_toArray, List.getElem_cons_succ, List.getElem_cons_zero, List.setIfInBounds_toArray, List.set_cons_zero, List.set_cons_succ]
  refine wpAnyH_ready (rs := [23]) (by kernel_rfl) (by simp) ?_
  refine AllReadyH.cons rfl (fun K hK => ?_) AllReadyH.nil
  go_simp
  go_at_call 28
  refine (refnum_any m.r _ HF.out.1.2.2.2.2.2.1.1 HF.out.1.2.2.2.2.2.1.2).mono ?_
  rintro y w7 ⟨rfl, hb7⟩
  have B7 := Lib.hid (B6.out.trans (hb7.mono B6.out.size))
  clear hb7
  try go_wp2_with fail
  refine hK.out _ _ (HS.out _ B7.out) (fun hS => ?_)
  clear hK K
  try simp only [Act.put, List.getElem_toArray, List.getElem_cons_succ, List.getElem_cons_zero, List.setIfInBounds_toArray, List.set_cons_zero, List.set_cons_succ]
  refine wpAnyH_take (i := 24) (v := ?_) rfl (by kernel_rfl) (by kernel_rfl) (by kernel_rfl) (fun _ _ _ h => h) (Or.inl ⟨by kernel_rfl, ?_⟩) (by first | assumption | trivial) ?_
  rotate_left
  · intro w hSw
    try dsimp only at hSw
    first | (go_simp; done) | (go_simp; with_reducible rfl)
  try simp only [Act.put, List.getElem_toArray, List.getElem_cons_succ, List.getElem_cons_zero, List.setIfInBounds_toArray, List.set_cons_zero, List.set_cons_succ]
  refine wpAnyH_ready (rs := [27]) (by kernel_rfl) (by simp) ?_
  refine AllReadyH.cons rfl (fun K hK => ?_) AllReadyH.nil
  go_simp
  go_at_call 28
  refine (refnum_any m.y _ HF.out.1.2.2.2.2.2.2.1.1 HF.out.1.2.2.2.2.2.2.1.2).mono ?_
  rintro y w8 ⟨rfl, hb8⟩
  have B8 := Lib.hid (B7.out.trans (hb8.mono B7.out.size))
  clear hb8
  try go_wp2_with fail
  refine hK.out _ _ (HS.out _ B8.out) (fun hS => ?_)
  clear hK K
  try simp only [Act.put, List.getElem_toArray, List.getElem_cons_succ, List.getElem_cons_zero, List.setIfInBounds_toArray, List.set_cons_zero, List.set_cons_succ]
  refine wpAnyH_take (i := 28) (v := ?_) rfl (by kernel_rfl) (by kernel_rfl) (by kernel_rfl) (fun _ _ _ h => h) (Or.inl ⟨by kernel_rfl, ?_⟩) (by first | assumption | trivial) ?_
  rotate_left
  · intro w hSw
    try dsimp only at hSw
    first | (go_simp; done) | (go_simp; with_reducible rfl)
  try simp only [Act.put, List.getElem_toArray, List.getElem_cons_succ, List.getElem_cons_zero, List.setIfInBounds_toArray, List.set_cons_zero, List.set_cons_succ]
  refine wpAnyH_take (i := 29) (v := ?_) rfl (by kernel_rfl) (by kernel_rfl) (by kernel_rfl) (fun _ _ _ h => h) (Or.inl ⟨by kernel_rfl, ?_⟩) (by first | assumption | trivial) ?_
  rotate_left
  · intro w hSw
    try dsimp only at hSw
    first | (go_simp; done) | (go_simp; with_reducible rfl)
  try simp only [Act.put, List.getElem_toArray, List.getElem_cons_succ, List.getElem_cons_zero, List.setIfInBounds_toArray, List.set_cons_zero, List.set_cons_succ]
  refine wpAnyH_done (by kernel_rfl) ?_ _
  have B9 : Hid (Below W0.heap.size W0 w8.drew) := B8.out.drew
  have hS2 := HS.out w8.drew B9.out
  go_wp2_with fail
  refine wp_region_held_drew (S := fun w' => w'.cell? ⟨w.heap.size, 0, none⟩ = some (.int .i64 m.k) ∧ w'.cell? ⟨w.heap.size, 1, none⟩ = some (.int .i64 m.s) ∧ w'.cell? ⟨w.heap.size, 2, none⟩ = some (.int .i64 m.n) ∧ w'.cell? ⟨w.heap.size, 3, none⟩ = some (.int .i64 m.b) ∧ w'.cell? ⟨w.heap.size, 4, none⟩ = some (.int .i64 m.c) ∧ w'.cell? ⟨w.heap.size, 5, none⟩ = some (.int .i64 m.r) ∧ w'.cell? ⟨w.heap.size, 6, none⟩ = some (.int .i64 m.y) ∧ w'.cell? ⟨w.heap.size, 7, none⟩ = some (.int .i64 m.a) ∧ w'.cell? ⟨w.heap.size, 8, none⟩ = some (.bool m.t) ∧ w'.cell? ⟨w.heap.size, 9, none⟩ = some (.slice pl nl cl) ∧ w'.cell? ⟨w.heap.size, 10, none⟩ = some (.slice pn nn cn)) (by kernel_rfl) hS2 (fun hS0 => ?_)
  refine wpAnyH_take (i := 0) (v := ?_) rfl (by kernel_rfl) (by kernel_rfl) (by kernel_rfl) (fun _ _ _ h => h) (Or.inl ⟨by kernel_rfl, ?_⟩) (by first | assumption | trivial) ?_
  rotate_left
  · intro w hSw
    try dsimp only at hSw
    first | (go_simp; done) | (go_simp; with_reducible rfl)
  try simp only [Act.put, List.getElem_toArray, List.getElem_cons_succ, List.getElem_cons_zero, List.setIfInBounds_toArray, List.set_cons_zero, List.set_cons_succ]
  refine wpAnyH_take (i := 1) (v := ?_) rfl (by kernel_rfl) (by kernel_rfl) (by kernel_rfl) (fun _ _ _ h => h) (Or.inl ⟨by kernel_rfl, ?_⟩) (by first | assumption | trivial) ?_
  rotate_left
  · intro w hSw
    try dsimp only at hSw
    first | (go_simp; done) | (go_simp; with_reducible rfl)
  try simp only [Act.put, List.getElem_toArray, List.getElem_cons_succ, List.getElem_cons_zero, List.setIfInBounds_toArray, List.set_cons_zero, List.set_cons_succ]
  refine wpAnyH_take (i := 2) (v := ?_) rfl (by kernel_rfl) (by kernel_rfl) (by kernel_rfl) (fun _ _ _ h => h) (Or.inl ⟨by kernel_rfl, ?_⟩) (by first | assumption | trivial) ?_
  rotate_left
  · intro w hSw
    try dsimp only at hSw
    first | (go_simp; done) | (go_simp; with_reducible rfl)
  try simp only [Act.put, List.getElem_toArray, List.getElem_cons_succ, List.getElem_cons_zero, List.setIfInBounds_toArray, List.set_cons_zero, List.set_cons_succ]
  refine wpAnyH_take (i := 4) (v := ?_) rfl (by kernel_rfl) (by kernel_rfl) (by kernel_rfl) (fun _ _ _ h => h) (Or.inl ⟨by kernel_rfl, ?_⟩) (by first | assumption | trivial) ?_
  rotate_left
  · intro w hSw
    try dsimp only at hSw
    first | (go_simp; done) | (go_simp; with_reducible rfl)
  try simp only [Act.put, List.getElem_toArray, List.getElem_cons_succ, List.getElem_cons_zero, List.setIfInBounds_toArray, List.set_cons_zero, List.set_cons_succ]
  refine wpAnyH_take (i := 5) (v := ?_) rfl (by kernel_rfl) (by kernel_rfl) (by kernel_rfl) (fun _ _ _ h => h) (Or.inl ⟨by kernel_rfl, ?_⟩) (by first | assumption | trivial) ?_
  rotate_left
  · intro w hSw
    try dsimp only at hSw
    first | (go_simp; done) | (go_simp; with_reducible rfl)
  try simp only [Act.put, List.getElem_toArray, List.getElem_cons_succ, List.getElem_cons_zero, List.setIfInBounds_toArray, List.set_cons_zero, List.set_cons_succ]
  refine wpAnyH_take (i := 8) (v := ?_) rfl (by kernel_rfl) (by kernel_rfl) (by kernel_rfl) (fun _ _ _ h => h) (Or.inl ⟨by kernel_rfl, ?_⟩) (by first | assumption | trivial) ?_
  rotate_left
  · intro w hSw
    try dsimp only at hSw
    first | (go_simp; done) | (go_simp; with_reducible rfl)
  try simp only [Act.put, List.getElem_toArray, List.getElem_cons_succ, List.getElem_cons_zero, List.setIfInBounds_toArray, List.set_cons_zero, List.set_cons_succ]
  refine wpAnyH_take (i := 9) (v := ?_) rfl (by kernel_rfl) (by kernel_rfl) (by kernel_rfl) (fun _ _ _ h => h) (Or.inl ⟨by kernel_rfl, ?_⟩) (by first | assumption | trivial) ?_
  rotate_left
  · intro w hSw
    try dsimp only at hSw
    first | (go_simp; done) | (go_simp; with_reducible rfl)
  try simp only [Act.put, List.getElem_toArray, List.getElem_cons_succ, List.getElem_cons_zero, List.setIfInBounds_toArray, List.set_cons_zero, List.set_cons_succ]
  refine wpAnyH_take (i := 10) (v := ?_) rfl (by kernel_rfl) (by kernel_rfl) (by kernel_rfl) (fun _ _ _ h => h) (Or.inl ⟨by kernel_rfl, ?_⟩) (by first | assumption | trivial) ?_
  rotate_left
  · intro w hSw
    try dsimp only at hSw
    first | (go_simp; done) | (go_simp; with_reducible rfl)
  try simp only [Act.put, List.getElem_toArray, List.getElem_cons_succ, List.getElem_cons_zero, List.setIfInBounds_toArray, List.set_cons_zero, List.set_cons_succ]
  refine wpAnyH_ready (rs := [3]) (by kernel_rfl) (by simp) ?_
  refine AllReadyH.cons rfl (fun K hK => ?_) AllReadyH.nil
  go_simp
  go_at_call 28
  refine (refnum_any m.a _ HF.out.1.2.2.2.2.2.2.2.1 HF.out.1.2.2.2.2.2.2.2.2).mono ?_
  rintro y w10 ⟨rfl, hb10⟩
  have B10 := Lib.hid (B9.out.trans (hb10.mono B9.out.size))
  clear hb10
  try go_wp2_with fail
  refine hK.out _ _ (HS.out _ B10.out) (fun hS => ?_)
  clear hK K
  try simp only [Act.put, List.getElem_toArray, List.getElem_cons_succ, List.getElem_cons_zero, List.setIfInBounds_toArray, List.set_cons_zero, List.set_cons_succ]
  refine wpAnyH_ready (rs := [6]) (by kernel_rfl) (by simp) ?_
  refine AllReadyH.cons rfl (fun K hK => ?_) AllReadyH.nil
  go_simp
  go_at_call 29
  refine (refbool_any m.t _).mono ?_
  rintro y w11 ⟨rfl, rfl⟩
  try go_wp2_with fail
  refine hK.out _ _ (HS.out _ B10.out) (fun hS => ?_)
  clear hK K
  try simp only [Act.put, List.getElem_toArray, List.getElem_cons_succ, List.getElem_cons_zero, List.setIfInBounds_toArray, List.set_cons_zero, List.set_cons_succ]
  refine wpAnyH_take (i := 7) (v := ?_) rfl (by kernel_rfl) (by kernel_rfl) (by kernel_rfl) (fun _ _ _ h => h) (Or.inl ⟨by kernel_rfl, ?_⟩) (by first | assumption | trivial) ?_
  rotate_left
  · intro w hSw
    try dsimp only at hSw
    first | (go_simp; done) | (go_simp; with_reducible rfl)
  try simp only [Act.put, List.getElem_toArray, List.getElem_cons_succ, List.getElem_cons_zero, List.setIfInBounds_toArray, List.set_cons_zero, List.set_cons_succ]
  refine wpAnyH_ready (rs := [11]) (by kernel_rfl) (by simp) ?_
  refine AllReadyH.cons rfl (fun K hK => ?_) AllReadyH.nil
  go_simp
  go_at_call 28
  refine (refnum_any (nl : Int) _ HL1.out.1 HL1.out.2).mono ?_
  rintro y w12 ⟨rfl, hb12⟩
  have B12 := Lib.hid (B10.out.trans (hb12.mono B10.out.size))
  clear hb12
  try go_wp2_with fail
  refine hK.out _ _ (HS.out _ B12.out) (fun hS => ?_)
  clear hK K
  try simp only [Act.put, List.getElem_toArray, List.getElem_cons_succ, List.getElem_cons_zero, List.setIfInBounds_toArray, List.set_cons_zero, List.set_cons_succ]
  refine wpAnyH_take (i := 12) (v := ?_) rfl (by kernel_rfl) (by kernel_rfl) (by kernel_rfl) (fun _ _ _ h => h) (Or.inl ⟨by kernel_rfl, ?_⟩) (by first | assumption | trivial) ?_
  rotate_left
  · intro w hSw
    try dsimp only at hSw
    first | (go_simp; done) | (go_simp; with_reducible rfl)
  try simp only [Act.put, List.getElem_toArray, List.getElem_cons_succ, List.getElem_cons_zero, List.setIfInBounds_toArray, List.set_cons_zero, List.set_cons_succ]
  refine wpAnyH_take (i := 13) (v := ?_) rfl (by kernel_rfl) (by kernel_rfl) (by kernel_rfl) (fun _ _ _ h => h) (Or.inl ⟨by kernel_rfl, ?_⟩) (by first | assumption | trivial) ?_
  rotate_left
  · intro w hSw
    try dsimp only at hSw
    first | (go_simp; done) | (go_simp; with_reducible rfl)
  try simp only [Act.put, List.getElem_toArray, List.getElem_cons_succ, List.getElem_cons_zero, List.setIfInBounds_toArray, List.set_cons_zero, List.set_cons_succ]
  refine wpAnyH_take (i := 14) (v := ?_) rfl (by kernel_rfl) (by kernel_rfl) (by kernel_rfl) (fun _ _ _ h => h) (Or.inl ⟨by kernel_rfl, ?_⟩) (by first | assumption | trivial) ?_
  rotate_left
  · intro w hSw
    try dsimp only at hSw
    first | (go_simp; done) | (go_simp; with_reducible rfl)
  try simp only [Act.put, List.getElem_toArray, List.getElem_cons_succ, List.getElem_cons_zero, List.setIfInBounds_toArray, List.set_cons_zero, List.set_cons_succ]
  refine wpAnyH_done (by kernel_rfl) ?_ _
  clear q2 q3 q4 q5 q6 q7 q8 q9 q10 hS1 hS2
  have hfs : numL m.k ++ (numL m.s ++ (numL m.n ++ (numL m.b ++ (numL m.c ++ (numL m.r ++ (numL m.y ++ (numL m.a ++ (boL m.t ++ numL (nl : Int))))))))) = fstL m := by unfold fstL; rw [HNL.out]
  rw [hfs]
  clear hfs
  have HREL : Hid (RW1 W0 m 0 (.string (strOfNums (fstL m))) w12) := ⟨by simp, (fun _ h => by simp at h), B12.out⟩
  have HFL : Hid ((fstL m).length ≤ 100) := fstL_len HF.out HFA.out
  generalize w12 = wq at *
  go_wp2_with fail
  go_loopw [4, 5] (fun v i wr => ∃ k : Nat, k ≤ nl ∧ i = .int .i64 k ∧ Hid (RW1 W0 m k v wr)) (fun _ i _ => nl - (intOf i).toNat)
  case atStart => exact ⟨0, by omega, rfl, HREL⟩
  case round =>
    obtain ⟨k, hk, rfl, HKR⟩ := hrel
    clear HREL
    obtain ⟨rfl, hok, hlow⟩ := HKR.out
    have HOK := Lib.hid hok
    have HLO := Lib.hid hlow
    have hkc := HK0.out.below hlow HK0.out.lt
    have b9 : wr.cell? ⟨w.heap.size, 9, none⟩ = some (.slice pl nl cl) := hkc.cell 9
    have b10 : wr.cell? ⟨w.heap.size, 10, none⟩ = some (.slice pn nn cn) := hkc.cell 10
    clear hok hkc HKR
    by_cases hlt : k < nl
    · have hltI : (k : Int) < (nl : Int) := by omega
      have hk60 : k + 1 ≤ 2000 := by omega
      as_aux_lemma =>
      have hkx : k < m.ls.length := by rw [HNL.out]; exact hlt
      obtain ⟨b, o, rfl, hbl, hcs⟩ := (HLR.out.kept (B0.out.trans (hlow.mono B0.out.size))).at_ k hkx
      have HXF := Lib.hid (HF.out.2.1 m.ls[k] (List.getElem_mem hkx))
      have HTK : Hid (m.ls.take (k + 1) = m.ls.take k ++ [m.ls[k]]) := List.take_succ_eq_append_getElem hkx
      have HALL : Hid (m.ls[k].ok = false → m.ls.all Lin.ok = false) := fun h => by
        rw [List.all_eq_false]
        exact ⟨_, List.getElem_mem hkx, by simp [h]⟩
      have hlen := lins_len (m.ls.take k) (fun x hx => HF.out.2.1 x (List.mem_of_mem_take hx))
      rw [List.length_take] at hlen
      have HPL : Hid ((fstL m ++ (m.ls.take k).flatMap linL).length ≤ 50000) := by show _ ≤ _; rw [List.length_append]; have h1 := HFL.out; have h2 := HFA.out; omega
      generalize hPk : fstL m ++ (m.ls.take k).flatMap linL = PK at *
      have HPK := Lib.hid hPk
      generalize m.ls[k] = x at *
      have c0 : wr.cell? ⟨b, o + k * 4, none⟩ = some (.int .i64 x.s) := hcs 0 (by decide)
      have c1 : wr.cell? ⟨b, o + k * 4 + 1, none⟩ = some (.int .i64 x.n) := hcs 1 (by decide)
      have c2 : wr.cell? ⟨b, o + k * 4 + 2, none⟩ = some (.int .i64 x.b) := hcs 2 (by decide)
      have c3 : wr.cell? ⟨b, o + k * 4 + 3, none⟩ = some (.int .i64 x.a) := hcs 3 (by decide)
      have HBX := Lib.hid (Blk.new wr #[.int .i64 x.s, .int .i64 x.n, .int .i64 x.b, .int .i64 x.a] 53)
      have HLX := Lib.hid (hlow.alloc hlow.size (.cells #[.int .i64 x.s, .int .i64 x.n, .int .i64 x.b, .int .i64 x.a] 53))
      clear hcs hbl hlow hlen hPk
      go_wp2_with fail
      clear c0 c1 c2 c3 b9 b10
      refine (small_any x.s _).mono ?_
      rintro y w2 ⟨rfl, rfl⟩
      by_cases e1 : okN x.s = true
      rotate_left
      · have e1' : okN x.s = false := by simpa using e1
        have HAL := Lib.hid (HALL.out (by simp [Lin.ok, e1']))
        rw [e1']
        go_wp2_with fail
        go_ret2
        exact ⟨by rw [← HANS.out, ← HERR.out, HAL.out]; rfl, (B0.out.trans (HLX.out.mono B0.out.size))⟩
      have E1 := Lib.hid e1
      rw [e1]
      clear e1
      go_wp2_with fail
      refine (small_any x.n _).mono ?_
      rintro y w2 ⟨rfl, rfl⟩
      by_cases e2 : okN x.n = true
      rotate_left
      · have e2' : okN x.n = false := by simpa using e2
        have HAL := Lib.hid (HALL.out (by simp [Lin.ok, e2']))
        rw [e2']
        go_wp2_with fail
        go_ret2
        exact ⟨by rw [← HANS.out, ← HERR.out, HAL.out]; rfl, (B0.out.trans (HLX.out.mono B0.out.size))⟩
      have E2 := Lib.hid e2
      rw [e2]
      clear e2
      go_wp2_with fail
      refine (small_any x.b _).mono ?_
      rintro y w2 ⟨rfl, rfl⟩
      by_cases e3 : okN x.b = true
      rotate_left
      · have e3' : okN x.b = false := by simpa using e3
        have HAL := Lib.hid (HALL.out (by simp [Lin.ok, e3']))
        rw [e3']
        go_wp2_with fail
        go_ret2
        exact ⟨by rw [← HANS.out, ← HERR.out, HAL.out]; rfl, (B0.out.trans (HLX.out.mono B0.out.size))⟩
      have E3 := Lib.hid e3
      rw [e3]
      clear e3
      go_wp2_with fail
      generalize hgx : wr.heap.size = gx at *
      generalize wr.alloc (.cells #[.int .i64 x.s, .int .i64 x.n, .int .i64 x.b, .int .i64 x.a] 53) = W5 at *
      have HS4 : Hid (∀ w', Below W5.heap.size W5 w' → w'.cell? ⟨gx, 0, none⟩ = some (.int .i64 x.s) ∧ w'.cell? ⟨gx, 1, none⟩ = some (.int .i64 x.n) ∧ w'.cell? ⟨gx, 2, none⟩ = some (.int .i64 x.b) ∧ w'.cell? ⟨gx, 3, none⟩ = some (.int .i64 x.a)) := fun w' hb => ⟨(HBX.out.below hb HBX.out.lt).cell 0, (HBX.out.below hb HBX.out.lt).cell 1, (HBX.out.below hb HBX.out.lt).cell 2, (HBX.out.below hb HBX.out.lt).cell 3⟩
      have D1 : Hid (Below W5.heap.size W5 W5.drew) := (Below.refl _ W5).drew
      have hS5 := HS4.out W5.drew D1.out
      have t1 := numL_len HXF.out.1.1 HXF.out.1.2
      have t2 := numL_len HXF.out.2.1.1 HXF.out.2.1.2
      have t3 := numL_len HXF.out.2.2.1.1 HXF.out.2.2.1.2
      have t4 := numL_len HXF.out.2.2.2.1 HXF.out.2.2.2.2
      have t5 : PK.length ≤ 50000 := HPL.out
      have q2 : ¬ 9223372036854775807 < (numL x.s).length + (numL x.n).length := by omega
      have q3 : ¬ 9223372036854775807 < ((numL x.s).length + (numL x.n).length) + (numL x.b).length := by omega
      have q4 : ¬ 9223372036854775807 < ((numL x.s).length + ((numL x.n).length + (numL x.b).length)) + (numL x.a).length := by omega
      have q5 : ¬ 9223372036854775807 < PK.length + ((numL x.s).length + ((numL x.n).length + ((numL x.b).length + (numL x.a).length))) := by omega
      clear t1 t2 t3 t4 t5
      refine wp_region_held_drew (S := fun w' => w'.cell? ⟨gx, 0, none⟩ = some (.int .i64 x.s) ∧ w'.cell? ⟨gx, 1, none⟩ = some (.int .i64 x.n) ∧ w'.cell? ⟨gx, 2, none⟩ = some (.int .i64 x.b) ∧ w'.cell? ⟨gx, 3, none⟩ = some (.int .i64 x.a)) (by kernel_rfl) hS5 (fun hS0 => ?_)
      refine wpAnyH_take (i := 0) (v := ?_) rfl (by kernel_rfl) (by kernel_rfl) (by kernel_rfl) (fun _ _ _ h => h) (Or.inl ⟨by kernel_rfl, ?_⟩) (by first | assumption | trivial) ?_
      rotate_left
      · intro w hSw
        try dsimp only at hSw
        first | (go_simp; done) | (go_simp; with_reducible rfl)
      try simp only [Act.put, List.getElem_toArray, List.getElem_cons_succ, List.getElem_cons_zero, List.setIfInBounds_toArray, List.set_cons_zero, List.set_cons_succ]
      refine wpAnyH_take (i := 1) (v := ?_) rfl (by kernel_rfl) (by kernel_rfl) (by kernel_rfl) (fun _ _ _ h => h) (Or.inl ⟨by kernel_rfl, ?_⟩) (by first | assumption | trivial) ?_
      rotate_left
      · intro w hSw
        try dsimp only at hSw
        first | (go_simp; done) | (go_simp; with_reducible rfl)
      try simp only [Act.put, List.getElem_toArray, List.getElem_cons_succ, List.getElem_cons_zero, List.setIfInBounds_toArray, List.set_cons_zero, List.set_cons_succ]
      refine wpAnyH_take (i := 2) (v := ?_) rfl (by kernel_rfl) (by kernel_rfl) (by kernel_rfl) (fun _ _ _ h => h) (Or.inl ⟨by kernel_rfl, ?_⟩) (by first | assumption | trivial) ?_
      rotate_left
      · intro w hSw
        try dsimp only at hSw
        first | (go_simp; done) | (go_simp; with_reducible rfl)
      try simp only [Act.put, List.getElem_toArray, List.getElem_cons_succ, List.getElem_cons_zero, List.setIfInBounds_toArray, List.set_cons_zero, List.set_cons_succ]
      refine wpAnyH_take (i := 3) (v := ?_) rfl (by kernel_rfl) (by kernel_rfl) (by kernel_rfl) (fun _ _ _ h => h) (Or.inl ⟨by kernel_rfl, ?_⟩) (by first | assumption | trivial) ?_
      rotate_left
      · intro w hSw
        try dsimp only at hSw
        first | (go_simp; done) | (go_simp; with_reducible rfl)
      try simp only [Act.put, List.getElem_toArray, List.getElem_cons_succ, List.getElem_cons_zero, List.setIfInBounds_toArray, List.set_cons_zero, List.set_cons_succ]
      refine wpAnyH_take (i := 5) (v := ?_) rfl (by kernel_rfl) (by kernel_rfl) (by kernel_rfl) (fun _ _ _ h => h) (Or.inl ⟨by kernel_rfl, ?_⟩) (by first | assumption | trivial) ?_
      rotate_left
      · intro w hSw
        try dsimp only at hSw
        first | (go_simp; done) | (go_simp; with_reducible rfl)
      try simp only [Act.put, List.getElem_toArray, List.getElem_cons_succ, List.getElem_cons_zero, List.setIfInBounds_toArray, List.set_cons_zero, List.set_cons_succ]
      refine wpAnyH_take (i := 6) (v := ?_) rfl (by kernel_rfl) (by kernel_rfl) (by kernel_rfl) (fun _ _ _ h => h) (Or.inl ⟨by kernel_rfl, ?_⟩) (by first | assumption | trivial) ?_
      rotate_left
      · intro w hSw
        try dsimp only at hSw
        first | (go_simp; done) | (go_simp; with_reducible rfl)
      try simp only [Act.put, List.getElem_toArray, List.getElem_cons_succ, List.getElem_cons_zero, List.setIfInBounds_toArray, List.set_cons_zero, List.set_cons_succ]
      refine wpAnyH_take (i := 7) (v := ?_) rfl (by kernel_rfl) (by kernel_rfl) (by kernel_rfl) (fun _ _ _ h => h) (Or.inl ⟨by kernel_rfl, ?_⟩) (by first | assumption | trivial) ?_
      rotate_left
      · intro w hSw
        try dsimp only at hSw
        first | (go_simp; done) | (go_simp; with_reducible rfl)
      try simp only [Act.put, List.getElem_toArray, List.getElem_cons_succ, List.getElem_cons_zero, List.setIfInBounds_toArray, List.set_cons_zero, List.set_cons_succ]
      refine wpAnyH_take (i := 10) (v := ?_) rfl (by kernel_rfl) (by kernel_rfl) (by kernel_rfl) (fun _ _ _ h => h) (Or.inl ⟨by kernel_rfl, ?_⟩) (by first | assumption | trivial) ?_
      rotate_left
      · intro w hSw
        try dsimp only at hSw
        first | (go_simp; done) | (go_simp; with_reducible rfl)
      try simp only [Act.put, List.getElem_toArray, List.getElem_cons_succ, List.getElem_cons_zero, List.setIfInBounds_toArray, List.set_cons_zero, List.set_cons_succ]
      refine wpAnyH_take (i := 11) (v := ?_) rfl (by kernel_rfl) (by kernel_rfl) (by kernel_rfl) (fun _ _ _ h => h) (Or.inl ⟨by kernel_rfl, ?_⟩) (by first | assumption | trivial) ?_
      rotate_left
      · intro w hSw
        try dsimp only at hSw
        first | (go_simp; done) | (go_simp; with_reducible rfl)
      try simp only [Act.put, List.getElem_toArray, List.getElem_cons_succ, List.getElem_cons_zero, List.setIfInBounds_toArray, List.set_cons_zero, List.set_cons_succ]
      refine wpAnyH_take (i := 14) (v := ?_) rfl (by kernel_rfl) (by kernel_rfl) (by kernel_rfl) (fun _ _ _ h => h) (Or.inl ⟨by kernel_rfl, ?_⟩) (by first | assumption | trivial) ?_
      rotate_left
      · intro w hSw
        try dsimp only at hSw
        first | (go_simp; done) | (go_simp; with_reducible rfl)
      try simp only [Act.put, List.getElem_toArray, List.getElem_cons_succ, List.getElem_cons_zero, List.setIfInBounds_toArray, List.set_cons_zero, List.set_cons_succ]
      refine wpAnyH_take (i := 15) (v := ?_) rfl (by kernel_rfl) (by kernel_rfl) (by kernel_rfl) (fun _ _ _ h => h) (Or.inl ⟨by kernel_rfl, ?_⟩) (by first | assumption | trivial) ?_
      rotate_left
      · intro w hSw
        try dsimp only at hSw
        first | (go_simp; done) | (go_simp; with_reducible rfl)
      try simp only [Act.put, List.getElem_toArray, List.getElem_cons_succ, List.getElem_cons_zero, List.setIfInBounds_toArray, List.set_cons_zero, List.set_cons_succ]
      refine wpAnyH_ready (rs := [4]) (by kernel_rfl) (by simp) ?_
      refine AllReadyH.cons rfl (fun K hK => ?_) AllReadyH.nil
      go_simp
      go_at_call 28
      refine (refnum_any x.s _ HXF.out.1.1 HXF.out.1.2).mono ?_
      rintro y v2 ⟨rfl, hb2⟩
      have D2 := Lib.hid (D1.out.trans (hb2.mono D1.out.size))
      clear hb2
      try go_wp2_with fail
      refine hK.out _ _ (HS4.out _ D2.out) (fun hS => ?_)
      clear hK K
      try simp only [Act.put, List.getElem_toArray, List.getElem_cons_succ, List.getElem_cons_zero, List.setIfInBounds_toArray, List.set_cons_zero, List.set_cons_succ]
      refine wpAnyH_ready (rs := [8]) (by kernel_rfl) (by simp) ?_
      refine AllReadyH.cons rfl (fun K hK => ?_) AllReadyH.nil
      go_simp
      go_at_call 28
      refine (refnum_any x.n _ HXF.out.2.1.1 HXF.out.2.1.2).mono ?_
      rintro y v3 ⟨rfl, hb3⟩
      have D3 := Lib.hid (D2.out.trans (hb3.mono D2.out.size))
      clear hb3
      try go_wp2_with fail
      refine hK.out _ _ (HS4.out _ D3.out) (fun hS => ?_)
      clear hK K
      try simp only [Act.put, List.getElem_toArray, List.getElem_cons_succ, List.getElem_cons_zero, List.setIfInBounds_toArray, List.set_cons_zero, List.set_cons_succ]
      refine wpAnyH_take (i := 9) (v := ?_) rfl (by kernel_rfl) (by kernel_rfl) (by kernel_rfl) (fun _ _ _ h => h) (Or.inl ⟨by kernel_rfl, ?_⟩) (by first | assumption | trivial) ?_
      rotate_left
      · intro w hSw
        try dsimp only at hSw
        first | (go_simp; done) | (go_simp; with_reducible rfl)
      try simp only [Act.put, List.getElem_toArray, List.getElem_cons_succ, List.getElem_cons_zero, List.setIfInBounds_toArray, List.set_cons_zero, List.set_cons_succ]
      refine wpAnyH_ready (rs := [12]) (by kernel_rfl) (by simp) ?_
      refine AllReadyH.cons rfl (fun K hK => ?_) AllReadyH.nil
      go_simp
      go_at_call 28
      refine (refnum_any x.b _ HXF.out.2.2.1.1 HXF.out.2.2.1.2).mono ?_
      rintro y v4 ⟨rfl, hb4⟩
      have D4 := Lib.hid (D3.out.trans (hb4.mono D3.out.size))
      clear hb4
      try go_wp2_with fail
      refine hK.out _ _ (HS4.out _ D4.out) (fun hS => ?_)
      clear hK K
      try simp only [Act.put, List.getElem_toArray, List.getElem_cons_succ, List.getElem_cons_zero, List.setIfInBounds_toArray, List.set_cons_zero, List.set_cons_succ]
      refine wpAnyH_take (i := 13) (v := ?_) rfl (by kernel_rfl) (by kernel_rfl) (by kernel_rfl) (fun _ _ _ h => h) (Or.inl ⟨by kernel_rfl, ?_⟩) (by first | assumption | trivial) ?_
      rotate_left
      · intro w hSw
        try dsimp only at hSw
        first | (go_simp; done) | (go_simp; with_reducible rfl)
      try simp only [Act.put, List.getElem_toArray, List.getElem_cons_succ, List.getElem_cons_zero, List.setIfInBounds_toArray, List.set_cons_zero, List.set_cons_succ]
      refine wpAnyH_ready (rs := [16]) (by kernel_rfl) (by simp) ?_
      refine AllReadyH.cons rfl (fun K hK => ?_) AllReadyH.nil
      go_simp
      go_at_call 28
      refine (refnum_any x.a _ HXF.out.2.2.2.1 HXF.out.2.2.2.2).mono ?_
      rintro y v5 ⟨rfl, hb5⟩
      have D5 := Lib.hid (D4.out.trans (hb5.mono D4.out.size))
      clear hb5
      try go_wp2_with fail
      refine hK.out _ _ (HS4.out _ D5.out) (fun hS => ?_)
      clear hK K
      try simp only [Act.put, List.getElem_toArray, List.getElem_cons_succ, List.getElem_cons_zero, List.setIfInBounds_toArray, List.set_cons_zero, List.set_cons_succ]
      refine wpAnyH_take (i := 17) (v := ?_) rfl (by kernel_rfl) (by kernel_rfl) (by kernel_rfl) (fun _ _ _ h => h) (Or.inl ⟨by kernel_rfl, ?_⟩) (by first | assumption | trivial) ?_
      rotate_left
      · intro w hSw
        try dsimp only at hSw
        first | (go_simp; done) | (go_simp; with_reducible rfl)
      try simp only [Act.put, List.getElem_toArray, List.getElem_cons_succ, List.getElem_cons_zero, List.setIfInBounds_toArray, List.set_cons_zero, List.set_cons_succ]
      refine wpAnyH_take (i := 18) (v := ?_) rfl (by kernel_rfl) (by kernel_rfl) (by kernel_rfl) (fun _ _ _ h => h) (Or.inl ⟨by kernel_rfl, ?_⟩) (by first | assumption | trivial) ?_
      rotate_left
      · intro w hSw
        try dsimp only at hSw
        first | (go_simp; done) | (go_simp; with_reducible rfl)
      try simp only [Act.put, List.getElem_toArray, List.getElem_cons_succ, List.getElem_cons_zero, List.setIfInBounds_toArray, List.set_cons_zero, List.set_cons_succ]
      refine wpAnyH_take (i := 19) (v := ?_) rfl (by kernel_rfl) (by kernel_rfl) (by kernel_rfl) (fun _ _ _ h => h) (Or.inl ⟨by kernel_rfl, ?_⟩) (by first | assumption | trivial) ?_
      rotate_left
      · intro w hSw
        try dsimp only at hSw
        first | (go_simp; done) | (go_simp; with_reducible rfl)
      try simp only [Act.put, List.getElem_toArray, List.getElem_cons_succ, List.getElem_cons_zero, List.setIfInBounds_toArray, List.set_cons_zero, List.set_cons_succ]
      refine wpAnyH_done (by kernel_rfl) ?_ _
      have HNX : Hid (RW1 W0 m (k + 1) (.string (strOfNums (PK ++ (numL x.s ++ (numL x.n ++ (numL x.b ++ numL x.a)))))) v5) := by
        refine ⟨?_, ?_, HLX.out.trans (D5.out.mono HLX.out.size)⟩
        · rw [HTK.out, List.flatMap_append, ← HPK.out]
          simp [linL]
        · intro z hz
          rw [HTK.out] at hz
          rcases List.mem_append.1 hz with hz | hz
          · exact HOK.out z hz
          · simp at hz
            subst hz
            simp [Lin.ok, E1.out, E2.out, E3.out]
      clear q2 q3 q4 q5 hS5
      go_wp2_with fail
      go_roundw
      case rel => exact ⟨k + 1, by omega, by go_num, HNX⟩
      case measure => simp [intOf]; omega
    · have hltI : (nl : Int) ≤ (k : Int) := by omega
      have hkn : k = nl := by omega
      subst hkn
      as_aux_lemma =>
      have htk : m.ls.take k = m.ls := List.take_of_length_le (by rw [HNL.out]; exact Nat.le_refl _)
      rw [htk] at HOK ⊢
      have HALL : Hid (m.ls.all Lin.ok = true) := by
        show _ = _
        rw [List.all_eq_true]
        exact HOK.out
      have hlen := lins_len m.ls HF.out.2.1
      have hnl := nets_len m.ns HF.out.2.2
      have HPL : Hid ((fstL m ++ m.ls.flatMap linL).length ≤ 50000) := by show _ ≤ _; rw [List.length_append]; have h1 := HFL.out; have h2 := HFA.out; omega
      have hnn8 : nn ≤ 8 := by omega
      have HN8 := Lib.hid hnn8
      obtain ⟨PK, hPk⟩ : ∃ PK, PK = fstL m ++ m.ls.flatMap linL := ⟨_, rfl⟩
      rw [← hPk] at HPL ⊢
      have HPK := Lib.hid hPk
      have t1 := numL_len (n := (nn : Int)) (by omega) (by omega)
      have T1 := Lib.hid t1
      have t5 : PK.length ≤ 50000 := HPL.out
      have q2 : ¬ 9223372036854775807 < PK.length + (numL (nn : Int)).length := by omega
      clear htk hlen hnl hPk t1 t5 hnn8
      go_wp2_with fail
      refine (refnum_any (nn : Int) _ (by have := HN8.out; omega) (by have := HN8.out; omega)).mono ?_
      rintro y w2 ⟨rfl, hb2⟩
      have HL2 := Lib.hid (HLO.out.trans (hb2.mono HLO.out.size))
      have HREL2 : Hid (RW2 W0 m 0 (.string (strOfNums (PK ++ numL (nn : Int)))) w2) := by
        refine ⟨?_, HL2.out⟩
        rw [HPK.out, HNN.out]
        simp
      clear hb2 hlow HLO b9 b10
      go_wp2_with fail
      clear q2
      go_loopw [4, 7] (fun v i wr => ∃ j : Nat, j ≤ nn ∧ i = .int .i64 j ∧ Hid (RW2 W0 m j v wr)) (fun _ i _ => nn - (intOf i).toNat)
      case atStart => exact ⟨0, by omega, rfl, HREL2⟩
      case round =>
        obtain ⟨j, hj, rfl, HKR⟩ := hrel
        clear HREL2
        obtain ⟨rfl, hlow⟩ := HKR.out
        have HLO := Lib.hid hlow
        have hkc := HK0.out.below hlow HK0.out.lt
        have b10 : wr.cell? ⟨w.heap.size, 10, none⟩ = some (.slice pn nn cn) := hkc.cell 10
        clear hkc HKR
        by_cases hlj : j < nn
        · have hljI : (j : Int) < (nn : Int) := by omega
          have hj60 : j + 1 ≤ 2000 := by have := HN8.out; omega
          as_aux_lemma =>
          have hjx : j < m.ns.length := by rw [HNN.out]; exact hlj
          obtain ⟨b, o, rfl, hcz⟩ := rowi_at (HNR.out.kept (B0.out.trans (hlow.mono B0.out.size))) j hjx
          have hget : m.ns.getD j 0 = m.ns[j] := by rw [List.getD_eq_getElem?_getD, List.getElem?_eq_getElem hjx]; rfl
          rw [hget] at hcz
          have HZF := Lib.hid (HF.out.2.2 m.ns[j] (List.getElem_mem hjx))
          have HTK : Hid (m.ns.take (j + 1) = m.ns.take j ++ [m.ns[j]]) := List.take_succ_eq_append_getElem hjx
          have hnl := nets_len (m.ns.take j) (fun x hx => HF.out.2.2 x (List.mem_of_mem_take hx))
          rw [List.length_take] at hnl
          generalize m.ns[j] = z at *
          obtain ⟨QK, hQk⟩ : ∃ QK, QK = (fstL m ++ (m.ls.flatMap linL ++ numL m.ns.length)) ++ (m.ns.take j).flatMap numL := ⟨_, rfl⟩
          rw [← hQk]
          have HQK := Lib.hid hQk
          have tz := numL_len HZF.out.1 HZF.out.2
          have t5 : QK.length ≤ 60000 := by
            rw [hQk]
            simp only [List.length_append]
            have h1 := HPL.out
            rw [HPK.out, List.length_append] at h1
            have h2 := T1.out
            have h3 := HN8.out
            rw [HNN.out]
            omega
          have q2 : ¬ 9223372036854775807 < QK.length + (numL z).length := by omega
          clear hget hnl hQk tz t5 hlow hjx
          go_wp2_with fail
          refine (refnum_any z _ HZF.out.1 HZF.out.2).mono ?_
          rintro y w3 ⟨rfl, hb3⟩
          have HNX : Hid (RW2 W0 m (j + 1) (.string (strOfNums (QK ++ numL z))) w3) := by
            refine ⟨?_, HLO.out.trans (hb3.mono HLO.out.size)⟩
            rw [HTK.out, List.flatMap_append, HQK.out]
            simp
          clear hb3
          go_wp2_with fail
          clear q2
          go_roundw
          case rel => exact ⟨j + 1, by omega, by go_num, HNX⟩
          case measure => simp [intOf]; omega
        · have hljI : (nn : Int) ≤ (j : Int) := by omega
          have hjn : j = nn := by omega
          subst hjn
          have htk2 : m.ns.take j = m.ns := List.take_of_length_le (by rw [HNN.out]; exact Nat.le_refl _)
          rw [htk2]
          have HV : Hid (strOfNums ((fstL m ++ (m.ls.flatMap linL ++ numL m.ns.length)) ++ m.ns.flatMap numL) = strOfNums (msgL m)) := by
            show _ = _
            congr 1
            unfold fstL msgL msgL2 msgL3
            simp
          rw [HV.out]
          clear htk2 hlow
          go_wp2_with fail
          go_ret2
          exact ⟨by rw [← HANS.out, ← HERR.out, HALL.out]; rfl, B0.out.trans (HLO.out.mono B0.out.size)⟩
end Go.Proofs.Ytengkgpobckhjaa
