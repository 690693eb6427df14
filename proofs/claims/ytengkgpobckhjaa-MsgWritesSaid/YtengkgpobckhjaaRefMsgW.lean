/- contraref11.Write by contract: whatever the message. -/
import Derived.Test.YtengkgpobckhjaaRefMsg
namespace Go.Proofs.Ytengkgpobckhjaa
open Go.RowKit
theorem ret_w {f : FuncId} {args : Array Value} {w : World} {m : Msg} {E : Int} (hE : msgE m = E) (h0 : E ≠ 0) (h : Calls Try.prog f args w fun e w' => e = .returned (.tuple #[.string ⟨#[]⟩, .int .i64 E]) ∧ Below w.heap.size w w') : Calls Try.prog f args w fun e w' => e = .returned (.tuple #[.string (strOfNums (wrL [] m)), .int .i64 (msgE m)]) ∧ Below w.heap.size w w' := by
  have hw : wrL [] m = [] := by unfold wrL; rw [if_neg (by rw [hE]; exact h0)]
  rw [hw, hE]
  exact h
theorem refwrite_any (m : Msg) (pl : Option Addr) (cl : Nat) (pn : Option Addr) (cn : Nat) (w : World) (hF : m.Fit) (hl : TRow encN w (.slice pl m.ls.length cl) m.ls) (hn : Row .i64 w (.slice pn m.ns.length cn) m.ns) :
    Calls Try.prog 13 #[.agg #[.int .i64 m.k, .int .i64 m.s, .int .i64 m.n, .int .i64 m.b, .int .i64 m.c, .int .i64 m.r, .int .i64 m.y, .int .i64 m.a, .bool m.t, .slice pl m.ls.length cl, .slice pn m.ns.length cn]] w fun e w' => e = .returned (.tuple #[.string (strOfNums (wrL [] m)), .int .i64 (msgE m)]) ∧ Below w.heap.size w w' := by
  by_cases h0 : m.k < 1
  · exact ret_w (E := 110) (by unfold msgE; rw [if_pos (by simp [okK]; omega)]) (by decide) (refwrite_kind1 m pl _ cl pn _ cn w h0)
  by_cases h1 : 16 < m.k
  · exact ret_w (E := 110) (by unfold msgE; rw [if_pos (by simp [okK]; omega)]) (by decide) (refwrite_kind2 m pl _ cl pn _ cn w h0 h1)
  have hk : ¬ okK m.k = false := by rw [okK_iff.2 (by omega)]; decide
  by_cases h2 : (1024 : Int) < (m.ls.length : Int)
  · exact ret_w (E := 2) (by unfold msgE; rw [if_neg hk, if_pos (by omega)]) (by decide) (refwrite_long1 m pl _ cl pn _ cn w h0 h1 h2)
  by_cases h3 : (8 : Int) < (m.ns.length : Int)
  · exact ret_w (E := 2) (by unfold msgE; rw [if_neg hk, if_pos (by omega)]) (by decide) (refwrite_long2 m pl _ cl pn _ cn w h0 h1 h2 h3)
  have hlo : ¬ (1024 < m.ls.length ∨ 8 < m.ns.length) := by omega
  by_cases g0 : okN m.s = false
  · exact ret_w (E := 1) (by unfold msgE; rw [if_neg hk, if_neg hlo, if_pos (.inl (by unfold Msg.numsOk; simp [g0]))]) (by decide) (refwrite_num0 m pl _ cl pn _ cn w h0 h1 h2 h3  g0)
  have g0 : okN m.s = true := by simpa using g0
  by_cases g1 : okN m.n = false
  · exact ret_w (E := 1) (by unfold msgE; rw [if_neg hk, if_neg hlo, if_pos (.inl (by unfold Msg.numsOk; simp [g1]))]) (by decide) (refwrite_num1 m pl _ cl pn _ cn w h0 h1 h2 h3 g0 g1)
  have g1 : okN m.n = true := by simpa using g1
  by_cases g2 : okN m.b = false
  · exact ret_w (E := 1) (by unfold msgE; rw [if_neg hk, if_neg hlo, if_pos (.inl (by unfold Msg.numsOk; simp [g2]))]) (by decide) (refwrite_num2 m pl _ cl pn _ cn w h0 h1 h2 h3 g0 g1 g2)
  have g2 : okN m.b = true := by simpa using g2
  by_cases g3 : okN m.c = false
  · exact ret_w (E := 1) (by unfold msgE; rw [if_neg hk, if_neg hlo, if_pos (.inl (by unfold Msg.numsOk; simp [g3]))]) (by decide) (refwrite_num3 m pl _ cl pn _ cn w h0 h1 h2 h3 g0 g1 g2 g3)
  have g3 : okN m.c = true := by simpa using g3
  by_cases g4 : okN m.r = false
  · exact ret_w (E := 1) (by unfold msgE; rw [if_neg hk, if_neg hlo, if_pos (.inl (by unfold Msg.numsOk; simp [g4]))]) (by decide) (refwrite_num4 m pl _ cl pn _ cn w h0 h1 h2 h3 g0 g1 g2 g3 g4)
  have g4 : okN m.r = true := by simpa using g4
  by_cases g5 : okN m.y = false
  · exact ret_w (E := 1) (by unfold msgE; rw [if_neg hk, if_neg hlo, if_pos (.inl (by unfold Msg.numsOk; simp [g5]))]) (by decide) (refwrite_num5 m pl _ cl pn _ cn w h0 h1 h2 h3 g0 g1 g2 g3 g4 g5)
  have g5 : okN m.y = true := by simpa using g5
  have hnums : m.numsOk = true := by unfold Msg.numsOk; simp [g0, g1, g2, g3, g4, g5]
  have := refwrite_ok m pl _ cl pn _ cn w h0 h1 rfl rfl h2 h3 g0 g1 g2 g3 g4 g5 hF hl hn
  by_cases ha : m.ls.all Lin.ok = true
  · have hE : msgE m = 0 := by unfold msgE; rw [if_neg hk, if_neg hlo, if_neg (by rw [hnums, ha]; simp)]
    have hw : wrL [] m = msgL m := by unfold wrL; rw [if_pos hE]; rfl
    rw [if_pos ha, if_pos ha] at this
    rw [hw, hE]
    exact this
  · have ha' : m.ls.all Lin.ok = false := by simpa using ha
    rw [if_neg ha, if_neg ha] at this
    exact ret_w (E := 1) (by unfold msgE; rw [if_neg hk, if_neg hlo, if_pos (.inr ha')]) (by decide) this
end Go.Proofs.Ytengkgpobckhjaa
