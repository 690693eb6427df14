/- A law's state: a disk, a log on it, and the law's own slice of strings. -/
import Derived.Test.YtjbhcdmeeakdcaaWalSame
import Derived.Test.YtjbhcdmeeakdcaaWalPure
namespace Go.Proofs.Ytjbhcdmeeakdcaa
open Go.RowKit
def strS (d : List Int) : Value := .string (strOfNums d)
def WS (w : World) (B gl : Nat) (d : DSt) (n : Nat) (v : Value) (ess : List (List Int)) (wr : World) : Prop :=
  w.heap.size ≤ B ∧ B ≤ gl ∧ Below w.heap.size w wr ∧ ∃ P : Nat → Prop, P gl ∧ Dkp P wr B B d ∧ LogB wr gl B n ∧ OwnV wr B 9 v (ess.map strS) ∧ ∀ g, v.ownBlock = some g → P g ∧ g ≠ gl
theorem OwnV.belowP {P : Nat → Prop} {w w' : World} {base B : Nat} {e : TypeId} {v : Value} {vs : List Value} (h : OwnV w base e v vs) (hP : ∀ g, v.ownBlock = some g → P g) (hb : BelowP P B w w') : OwnV w' base e v vs := by
  have hl := h.lt
  refine ⟨h.1, ?_⟩
  rcases h.2 with h | ⟨g, cap, cur, rfl, hbg, hg, hr⟩
  · exact .inl h
  · exact .inr ⟨g, cap, cur, rfl, hbg, (hb.2 g (hP g rfl) (hl g rfl)).trans hg, hr⟩
theorem Dkp.grown {P : Nat → Prop} {w w' : World} {base g : Nat} {d : DSt} {row : Option Nat} (h : Dkp P w base g d) (hg : w.grownBy w' row) (hr : ∀ k, row = some k → P k) (hs : w.heap.size ≤ w'.heap.size) :
    Dkp (fun b => P b ∨ (w.heap.size ≤ b ∧ b < w'.heap.size)) w' base g d := by
  obtain ⟨vs, vr, h1, h2, h3, h4, h5, h6, h7, h8, p1, p2, p3, p4⟩ := h
  have keep : ∀ k, k < w.heap.size → ¬ P k → w'.heap[k]? = w.heap[k]? := fun k hk hp => hg.block k hk (fun e => hp (hr k e.symm))
  have own : ∀ (u : Value) (zs : List Int), Own .u8 w base 5 u zs → (∀ b, u.ownBlock = some b → ¬ P b) → Own .u8 w' base 5 u zs := by
    intro u zs ho hp
    have hl := ho.lt
    refine ⟨ho.1, ?_⟩
    rcases ho.2 with e | ⟨k, cap, cur, rfl, hbk, hk, hrest⟩
    · exact .inl e
    · exact .inr ⟨k, cap, cur, rfl, hbk, (keep k (hl k rfl) (hp k rfl)).trans hk, hrest⟩
  refine ⟨vs, vr, (keep g h1.lt p1).trans h1, own vs _ h2 p2, own vr _ h3 p3, h4, h5, h6, h7, h8, ?_, ?_, ?_, ?_⟩
  · intro hq; rcases hq with hq | hq
    · exact p1 hq
    · have := h1.lt; omega
  · intro b e hq; rcases hq with hq | hq
    · exact p2 b e hq
    · have := h2.lt b e; omega
  · intro b e hq; rcases hq with hq | hq
    · exact p3 b e hq
    · have := h3.lt b e; omega
  · intro b hq; rcases hq with hq | hq
    · have := p4 b hq; omega
    · exact hq.2
theorem WS.bel {w wr : World} {B gl n : Nat} {d : DSt} {v : Value} {ess : List (List Int)} (h : WS w B gl d n v ess wr) : Below w.heap.size w wr := h.2.2.1
theorem WS.kept {w wr w' : World} {B gl n : Nat} {d : DSt} {v : Value} {ess : List (List Int)} (h : WS w B gl d n v ess wr) (hb : Below wr.heap.size wr w') : WS w B gl d n v ess w' := by
  obtain ⟨h1, h2, h3, P, p1, p2, p3, p4, p5⟩ := h
  exact ⟨h1, h2, h3.trans (hb.mono h3.size), P, p1, p2.kept hb, p3.kept hb, p4.later hb, p5⟩
theorem ws_put {w wr : World} {B gl n : Nat} {d : DSt} {v : Value} {ess : List (List Int)} (h : WS w B gl d n v ess wr) (u : Value) (ys : List Int) (hn : n ≤ 1000000) (ho : Oct ys) (hl : ys.length ≤ 100000000) (hr : Row .u8 wr u ys) :
    Calls Try.prog 14 #[.pointer (some ⟨gl, 0, none⟩), u] wr fun x w' => x = .returned (.int .i64 (putE d ys)) ∧ WS w B gl (putD d ys) (if putE d ys = 0 then n + 1 else n) v ess w' := by
  obtain ⟨h1, h2, h3, P, p1, p2, p3, p4, p5⟩ := h
  refine (wput_any P wr B B gl n d u ys p2 p1 p3 hn h2 ho hl hr).mono ?_
  rintro x w' ⟨e1, e2, e3, e4⟩
  exact ⟨e1, h1, h2, h3.trans (e4.1.mono h1), P, p1, e2, e3, p4.belowP p5 e4, p5⟩
theorem ws_add {w wr : World} {B gl n : Nat} {d : DSt} {v : Value} {ess : List (List Int)} (h : WS w B gl d n v ess wr) (u : Value) (ys : List Int) (hn : n ≤ 1000000) (ho : Oct ys) (hl : ys.length ≤ 100000000) (hr : Row .u8 wr u ys) :
    Calls Try.prog 15 #[.pointer (some ⟨gl, 0, none⟩), u] wr fun x w' => x = .returned (.int .i64 (addE d ys)) ∧ WS w B gl (addD d ys) (if putE d ys = 0 then n + 1 else n) v ess w' := by
  obtain ⟨h1, h2, h3, P, p1, p2, p3, p4, p5⟩ := h
  refine (wadd_any P wr B B gl n d u ys p2 p1 p3 hn h2 ho hl hr).mono ?_
  rintro x w' ⟨e1, e2, e3, e4⟩
  exact ⟨e1, h1, h2, h3.trans (e4.1.mono h1), P, p1, e2, e3, p4.belowP p5 e4, p5⟩
theorem ws_sync {w wr : World} {B gl n : Nat} {d : DSt} {v : Value} {ess : List (List Int)} (h : WS w B gl d n v ess wr) :
    Calls Try.prog 16 #[.pointer (some ⟨gl, 0, none⟩)] wr fun x w' => x = .returned (.int .i64 d.syncE) ∧ WS w B gl d.syncD n v ess w' := by
  obtain ⟨h1, h2, h3, P, p1, p2, p3, p4, p5⟩ := h
  refine (wsync_any P wr B B gl n d p2 p1 p3).mono ?_
  rintro x w' ⟨e1, e2, e3, e4⟩
  exact ⟨e1, h1, h2, h3.trans (e4.1.mono h1), P, p1, e2, e3, p4.belowP (fun g hg => (p5 g hg).1) e4, p5⟩
theorem ws_len {w wr : World} {B gl n : Nat} {d : DSt} {v : Value} {ess : List (List Int)} (h : WS w B gl d n v ess wr) :
    Calls Try.prog 21 #[.pointer (some ⟨gl, 0, none⟩)] wr fun x w' => x = .returned (.int .i64 n) ∧ wr = w' := by
  obtain ⟨h1, h2, h3, P, p1, p2, p3, p4, p5⟩ := h
  exact wlen_any wr gl B n p3
theorem WS.ok {w wr : World} {B gl n : Nat} {d : DSt} {v : Value} {ess : List (List Int)} (h : WS w B gl d n v ess wr) : d.Ok := by
  obtain ⟨_, _, _, P, _, p2, _⟩ := h
  obtain ⟨_, _, _, _, _, _, _, _, _, h, _⟩ := p2
  exact h
theorem ws_crash {w wr : World} {B gl n : Nat} {d : DSt} {v : Value} {ess : List (List Int)} (h : WS w B gl d n v ess wr) (k t : Int) (bt : 0 ≤ t ∧ t < 256) (hf : d.Fits) :
    Calls Try.prog 18 #[.pointer (some ⟨B, 0, none⟩), .int .i64 k, .int .u8 t] wr fun x w' => x = .returned (.tuple #[]) ∧ WS w B gl (d.crashD k t) n v ess w' := by
  obtain ⟨h1, h2, h3, P, p1, p2, p3, p4, p5⟩ := h
  refine (crash_anyP P wr B B d k t bt p2 hf).mono ?_
  rintro x w' ⟨e1, e2, e4⟩
  exact ⟨e1, h1, h2, h3.trans (e4.1.mono h1), P, p1, e2, Blk.belowP p3 e4 p1, p4.belowP (fun g hg => (p5 g hg).1) e4, p5⟩
theorem ws_up {w wr : World} {B gl n : Nat} {d : DSt} {v : Value} {ess : List (List Int)} (h : WS w B gl d n v ess wr) (hf : d.Fits) :
    Calls Try.prog 22 #[.pointer (some ⟨B, 0, none⟩)] wr fun x w' => x = .returned (.tuple #[]) ∧ WS w B gl d.upD n v ess w' := by
  obtain ⟨h1, h2, h3, P, p1, p2, p3, p4, p5⟩ := h
  refine (up_anyP P wr B B d p2 hf).mono ?_
  rintro x w' ⟨e1, e2, e4⟩
  exact ⟨e1, h1, h2, h3.trans (e4.1.mono h1), P, p1, e2, Blk.belowP p3 e4 p1, p4.belowP (fun g hg => (p5 g hg).1) e4, p5⟩
theorem ws_fuse {w wr : World} {B gl n : Nat} {d : DSt} {v : Value} {ess : List (List Int)} (h : WS w B gl d n v ess wr) (k : Int) (h1' : -9223372036854775808 ≤ k) (h2' : k ≤ 9223372036854775807) :
    Calls Try.prog 19 #[.pointer (some ⟨B, 0, none⟩), .int .i64 k] wr fun x w' => x = .returned (.tuple #[]) ∧ WS w B gl (d.fuseD k) n v ess w' := by
  obtain ⟨h1, h2, h3, P, p1, p2, p3, p4, p5⟩ := h
  refine (fuse_anyP P wr B B d k h1' h2' p2).mono ?_
  rintro x w' ⟨e1, e2, e4⟩
  exact ⟨e1, h1, h2, h3.trans (e4.1.mono h1), P, p1, e2, Blk.belowP p3 e4 p1, p4.belowP (fun g hg => (p5 g hg).1) e4, p5⟩
/-- Opened anew: another log. -/
theorem ws_openF {w wr : World} {B gl n : Nat} {d : DSt} {v : Value} {ess : List (List Int)} (h : WS w B gl d n v ess wr) (hl : d.all.length ≤ 1000000) (h0 : openE d = 0) :
    Calls Try.prog 13 #[.pointer (some ⟨B, 0, none⟩)] wr fun x w' => ∃ gm u, x = .returned (.tuple #[.pointer (some ⟨gm, 0, none⟩), u, .int .i64 0]) ∧ RowSF wr.heap.size w' u (scD d.all) ∧ WS w B gm (openD d) (scD d.all).length v ess w' := by
  obtain ⟨h1, h2, h3, P, p1, p2, p3, p4, p5⟩ := h
  have hBw : B ≤ wr.heap.size := Nat.le_of_lt p2.dk.lt
  have hvl := p4.lt
  refine (wopen_any P wr B B d p2 hl).mono ?_
  rintro x w' ⟨_, h0'⟩
  obtain ⟨gm, u, e1, e2, e3, e4, e5, e6⟩ := h0' h0
  exact ⟨gm, u, e1, e4, h1, Nat.le_trans hBw e2, h3.trans (e6.1.mono h1), addP P gm, .inr rfl, e5, e3, p4.belowP (fun g hg => (p5 g hg).1) e6, fun g hg => ⟨.inl (p5 g hg).1, by have := hvl g hg; omega⟩⟩
theorem ws_open {w wr : World} {B gl n : Nat} {d : DSt} {v : Value} {ess : List (List Int)} (h : WS w B gl d n v ess wr) (hl : d.all.length ≤ 1000000) (h0 : openE d = 0) :
    Calls Try.prog 13 #[.pointer (some ⟨B, 0, none⟩)] wr fun x w' => ∃ gm u, x = .returned (.tuple #[.pointer (some ⟨gm, 0, none⟩), u, .int .i64 0]) ∧ RowSS w' u (scD d.all) ∧ WS w B gm (openD d) (scD d.all).length v ess w' := by
  refine (ws_openF h hl h0).mono ?_
  rintro x w' ⟨gm, u, e1, e2, e3⟩
  exact ⟨gm, u, e1, e2.ss, e3⟩
theorem WS.strR {w wr : World} {B gl n : Nat} {d : DSt} {v : Value} {ess : List (List Int)} (h : WS w B gl d n v ess wr) : StrR wr v ess := by
  obtain ⟨h1, h2, h3, P, p1, p2, p3, p4, p5⟩ := h
  exact OwnV.strR p4
theorem WS.form {w wr : World} {B gl n : Nat} {d : DSt} {v : Value} {ess : List (List Int)} (h : WS w B gl d n v ess wr) : ∃ p c, v = .slice p ess.length c := h.strR.shape
theorem eltStrW : EltV Try.prog 33 9 (.string ⟨#[]⟩) 16 := eltV_mk Try.underlying33 (by kernel_rfl)
/-- One string more. -/
theorem ws_append {ops : Array Oper} {rest : List Oper} {o : Oper} {a : Act} {Q : Exit → Act → World → Prop} {w wr : World} {B gl n : Nat} {d : DSt} {v : Value} {ess : List (List Int)} (h : WS w B gl d n v ess wr) (hgd : o.guard = none) (s x : Operand)
    (ho : o.op = .call { callee := .builtin .append, args := #[s, x], argTypes := #[33, 33] }) (ys : List Int) (b : Nat) (hb : b = wr.heap.size) (hs : a.eval s = v) (hx : a.eval x = .slice (some ⟨b, 0, none⟩) 1 1) (h63 : ess.length ≤ 1000000) (N : Nat) (hN : ess.length + 1 = N)
    (hk : ∀ p' c' w', WS w B gl d n (.slice p' N c') (ess ++ [ys]) w' → wpList Try.prog ops Q rest (a.put o.dst (.slice p' N c')) w') : wpList Try.prog ops Q (o :: rest) a (wr.alloc (.cells #[.string (strOfNums ys)] 9)) := by
  obtain ⟨h1, h2, h3, P, p1, p2, p3, p4, p5⟩ := h
  have hBw : B ≤ wr.heap.size := Nat.le_of_lt p2.dk.lt
  refine wpList_append_val hgd s x 33 ho 9 9 (.string ⟨#[]⟩) 16 B eltStrW rfl (by decide) v (ess.map strS) (.string (strOfNums ys)) rfl b hb hs hx p4 (by rw [List.length_map]; exact h63) hBw ?_
  intro v' w' ho' hg' hor' hb'
  have hlen : (ess.map strS ++ [Value.string (strOfNums ys)]).length = N := by rw [List.length_append, List.length_map, ← hN]; rfl
  have hv : ∃ p' c', v' = .slice p' N c' := by
    obtain ⟨p', c', e⟩ := ho'.form
    rw [hlen] at e
    exact ⟨p', c', e⟩
  obtain ⟨p', c', rfl⟩ := hv
  have hsz : wr.heap.size + 1 = (wr.alloc (.cells #[.string (strOfNums ys)] 9)).heap.size := by simp
  have hvl := p4.lt
  have hs' : (wr.alloc (.cells #[.string (strOfNums ys)] 9)).heap.size ≤ w'.heap.size := ((Below.refl 0 _).grown hg' (Nat.zero_le _) (fun _ _ => Nat.zero_le _)).size
  have hD := (p2.kept (oneB wr (.cells #[.string (strOfNums ys)] 9))).grown hg' (fun k hk => (p5 k hk).1) hs'
  have hL : LogB w' gl B n := (hg'.block gl (by have := p3.lt; omega) (fun e => (p5 gl e.symm).2 rfl)).trans (p3.kept (oneB wr _))
  refine hk p' c' w' ⟨h1, h2, h3.trans (hb'.mono h1), _, .inl p1, hD, hL, ?_, ?_⟩
  · rw [List.map_append]; exact ho'
  · intro g hg
    rcases hor' with e | e
    · rw [e] at hg
      exact ⟨.inl (p5 g hg).1, (p5 g hg).2⟩
    · rw [e] at hg
      cases hg
      have hgl := p3.lt
      have hlt := ho'.lt (wr.heap.size + 1) e
      exact ⟨.inr ⟨by omega, hlt⟩, by omega⟩
end Go.Proofs.Ytjbhcdmeeakdcaa
