/- WalSure's state: a disk, a log on it, two slices of strings of the law's own, and blocks that stay. -/
import Derived.Test.YtjbhcdmeeakdcaaWalBack
import Derived.Test.YtjbhcdmeeakdcaaFits
namespace Go.Proofs.Ytjbhcdmeeakdcaa
open Go.RowKit
/-- A slice of values is appended. -/
theorem run_append_vals {P : Program} (w : World) (t ty e : TypeId) (z : Value) (bytes base base2 : Nat) (he : EltV P t e z bytes) (hz1 : z.cells.size = 1) (hb8 : bytes ≤ 64) (v u : Value) (vs us : List Value) (h1 : ∀ x ∈ us, x.oneCell' = true)
    (hown : OwnV w base e v vs) (hu : OwnV w base2 e u us) (h63 : vs.length + us.length ≤ 1000000) (hbase : base ≤ w.heap.size) :
    ∃ v' w', (Builtin.append_ #[t, t] ty #[v, u]).run P w = .ok v' w' ∧ OwnV w' base e v' (vs ++ us) ∧ w.grownBy w' v.ownBlock ∧ (v'.ownBlock = v.ownBlock ∨ v'.ownBlock = some w.heap.size) := by
  obtain ⟨i, ht, hi, hz, hs, hby⟩ := he
  have hbytes : (vs.length + us.length) * bytes ≤ 140737488355328 := by
    have : (vs.length + us.length) * bytes ≤ 1000000 * 64 := Nat.mul_le_mul h63 hb8
    omega
  obtain ⟨p, c, rfl⟩ := hu.form
  cases p with
  | some ad =>
    have hn : ∀ j x, us[j]? = some x → w.cell? (ad.add j) = some x := by
      intro j x hj
      obtain ⟨hjl, hx⟩ := List.getElem?_eq_some_iff.1 hj
      obtain ⟨g, hg⟩ := hu.some_ (by omega)
      cases hg
      have h := (hu.cell j hjl).2
      rw [List.getD_eq_getElem?_getD, hj] at h
      rw [addAt, Nat.zero_add]
      exact h
    obtain ⟨v', w', hrun, hown', hg, hl⟩ := run_append_own_at (P := P) w base t ty e i z 1 bytes ht hi hz hs hby hz1 (by decide) v vs.length vs hown ad us.length c us (by simp) hn h1 (by unfold maxLen; omega) hbytes hbase
    exact ⟨v', w', hrun, by unfold OwnV; rw [List.length_append]; exact hown', hg, hl.2⟩
  | none =>
    have hy : us = [] ∧ c = 0 := by
      rcases hu.2 with ⟨e1, h0⟩ | ⟨g, cap, cur, e1, _⟩
      · have := Value.slice.inj e1
        exact ⟨List.length_eq_zero_iff.1 h0, this.2.2⟩
      · cases e1
    obtain ⟨rfl, rfl⟩ := hy
    refine ⟨v, w, ?_, by simpa using hown, World.grownBy.refl _ _, .inl rfl⟩
    rcases hown.2 with ⟨rfl, h0⟩ | ⟨g, cap, cur, rfl, _, _, hnc, _⟩
    · simp [Builtin.append_, run_underlying ht, sizeOf, typeInfo, hi, Builtin.lenOf, Builtin.firstCells]
    · simp [Builtin.append_, run_underlying ht, sizeOf, typeInfo, hi, Builtin.lenOf, Builtin.firstCells, hnc, storeCells]
theorem OwnV.trunc {w : World} {base n c : Nat} {e : TypeId} {p : Option Addr} {vs : List Value} (h : OwnV w base e (.slice p n c) vs) (m : Nat) (hm : m ≤ n) : OwnV w base e (.slice p m c) (vs.take m) := by
  obtain ⟨hl, h⟩ := h
  rcases h with ⟨e1, h0⟩ | ⟨g, cap, cur, e1, hb, hg, hn, hx, hs, ht⟩
  · cases e1
    have hm0 : m = 0 := by omega
    subst hm0
    exact ⟨by simp, .inl ⟨rfl, by simp⟩⟩
  · cases e1
    have hlen : (vs.take m).length = m := by rw [List.length_take]; omega
    refine ⟨by rw [Nat.mul_one], .inr ⟨g, c, cur, by rw [hlen], hb, hg, by omega, hx, hs, ?_⟩⟩
    rw [hlen, Nat.mul_one, ← ht, List.take_take]
    congr 1
    omega
theorem OwnV.capL {w : World} {base n c : Nat} {e : TypeId} {p : Option Addr} {vs : List Value} (h : OwnV w base e (.slice p n c) vs) : n ≤ c := by
  rcases h.2 with ⟨hv, hl⟩ | ⟨g, cap, cur, hv, _, _, hn, _⟩
  · cases hv; omega
  · cases hv; exact hn
theorem OwnV.stay {w w' : World} {base : Nat} {e : TypeId} {v : Value} {vs : List Value} (h : OwnV w base e v vs) (hk : ∀ g, v.ownBlock = some g → w'.heap[g]? = w.heap[g]?) : OwnV w' base e v vs := by
  refine ⟨h.1, ?_⟩
  rcases h.2 with h | ⟨g, cap, cur, rfl, hbg, hg, hr⟩
  · exact .inl h
  · exact .inr ⟨g, cap, cur, rfl, hbg, (hk g rfl).trans hg, hr⟩
/-- The blocks of G stay; v's strings are A, u's are C. -/
def WS2 (G : Nat → Prop) (w : World) (B gl : Nat) (d : DSt) (n : Nat) (v : Value) (A : List (List Int)) (u : Value) (C : List (List Int)) (wr : World) : Prop :=
  w.heap.size ≤ B ∧ B ≤ gl ∧ Below w.heap.size w wr ∧ ∃ P : Nat → Prop, P gl ∧ Dkp P wr B B d ∧ LogB wr gl B n ∧ OwnV wr B 9 v (A.map strS) ∧ OwnV wr B 9 u (C.map strS) ∧ (∀ g, v.ownBlock = some g → P g ∧ g ≠ gl) ∧ (∀ g, u.ownBlock = some g → P g ∧ g ≠ gl) ∧ (∀ g, v.ownBlock = some g → u.ownBlock ≠ some g) ∧ (∀ g, G g → P g ∧ g ≠ gl ∧ v.ownBlock ≠ some g ∧ u.ownBlock ≠ some g)
/-- The blocks of G are the same. -/
def Same2 (G : Nat → Prop) (wr w' : World) : Prop := ∀ b, G b → b < wr.heap.size → w'.heap[b]? = wr.heap[b]?
section
variable {G : Nat → Prop} {w wr : World} {B gl n : Nat} {d : DSt} {v u : Value} {A C : List (List Int)}
theorem WS2.bel (h : WS2 G w B gl d n v A u C wr) : Below w.heap.size w wr := h.2.2.1
theorem WS2.ok (h : WS2 G w B gl d n v A u C wr) : d.Ok := by
  obtain ⟨_, _, _, P, _, p2, _⟩ := h
  obtain ⟨_, _, _, _, _, _, _, _, _, h, _⟩ := p2
  exact h
theorem WS2.weak {G' : Nat → Prop} (h : WS2 G w B gl d n v A u C wr) (hG : ∀ b, G' b → G b) : WS2 G' w B gl d n v A u C wr := by
  obtain ⟨h1, h2, h3, P, p1, p2, p3, p4, p5, p6, p7, p8, p9⟩ := h
  exact ⟨h1, h2, h3, P, p1, p2, p3, p4, p5, p6, p7, p8, fun g hg => p9 g (hG g hg)⟩
theorem WS2.kept {w' : World} (h : WS2 G w B gl d n v A u C wr) (hb : Below wr.heap.size wr w') : WS2 G w B gl d n v A u C w' := by
  obtain ⟨h1, h2, h3, P, p1, p2, p3, p4, p5, p6, p7, p8, p9⟩ := h
  exact ⟨h1, h2, h3.trans (hb.mono h3.size), P, p1, p2.kept hb, p3.kept hb, p4.later hb, p5.later hb, p6, p7, p8, p9⟩
theorem WS2.alloc (h : WS2 none_ w B gl d n v A u C wr) (o : Obj) : WS2 (fun b => b = wr.heap.size) w B gl d n v A u C (wr.alloc o) := by
  obtain ⟨h1, h2, h3, P, p1, p2, p3, p4, p5, p6, p7, p8, p9⟩ := h
  have hb := oneB wr o
  have hv := p4.lt
  have hu := p5.lt
  have hgl := p3.lt
  refine ⟨h1, h2, h3.trans (hb.mono h3.size), since P wr (wr.alloc o), .inl p1, p2.since hb, p3.kept hb, p4.later hb, p5.later hb, fun g hg => ⟨.inl (p6 g hg).1, (p6 g hg).2⟩, fun g hg => ⟨.inl (p7 g hg).1, (p7 g hg).2⟩, p8, ?_⟩
  intro g hg
  subst hg
  exact ⟨.inr ⟨Nat.le_refl _, by simp⟩, by omega, fun e => by have := hv _ e; omega, fun e => by have := hu _ e; omega⟩
theorem WS2.sureR (h : WS2 G w B gl d n v A u C wr) : StrR wr v A := by
  obtain ⟨h1, h2, h3, P, p1, p2, p3, p4, p5, p6, p7, p8, p9⟩ := h
  exact OwnV.strR p4
theorem WS2.formA (h : WS2 G w B gl d n v A u C wr) : ∃ p c, v = .slice p A.length c := h.sureR.shape
theorem WS2.formC (h : WS2 G w B gl d n v A u C wr) : ∃ p c, u = .slice p C.length c := by
  obtain ⟨h1, h2, h3, P, p1, p2, p3, p4, p5, p6, p7, p8, p9⟩ := h
  have := p5.form
  rwa [List.length_map] at this
theorem WS2.vlt (h : WS2 G w B gl d n v A u C wr) : ∀ g, v.ownBlock = some g → g < wr.heap.size := by
  obtain ⟨h1, h2, h3, P, p1, p2, p3, p4, p5, p6, p7, p8, p9⟩ := h
  exact p4.lt
theorem WS2.dropC (h : WS2 G w B gl d n v A u C wr) : WS2 G w B gl d n v A (.slice none 0 0) [] wr := by
  obtain ⟨h1, h2, h3, P, p1, p2, p3, p4, p5, p6, p7, p8, p9⟩ := h
  exact ⟨h1, h2, h3, P, p1, p2, p3, p4, OwnV.nil_ _ _ _, p6, (fun g hg => by cases hg), (fun _ _ e => by cases e), fun g hg => ⟨(p9 g hg).1, (p9 g hg).2.1, (p9 g hg).2.2.1, fun e => by cases e⟩⟩
theorem WS2.dropA (h : WS2 G w B gl d n v A u C wr) : WS2 G w B gl d n (.slice none 0 0) [] u C wr := by
  obtain ⟨h1, h2, h3, P, p1, p2, p3, p4, p5, p6, p7, p8, p9⟩ := h
  exact ⟨h1, h2, h3, P, p1, p2, p3, OwnV.nil_ _ _ _, p5, (fun g hg => by cases hg), p7, (fun _ e => by cases e), fun g hg => ⟨(p9 g hg).1, (p9 g hg).2.1, (fun e => by cases e), (p9 g hg).2.2.2⟩⟩
theorem WS2.trunc {p : Option Addr} {N c : Nat} (h : WS2 G w B gl d n (.slice p N c) A u C wr) (m : Nat) (hm : m ≤ N) : WS2 G w B gl d n (.slice p m c) (A.take m) u C wr := by
  obtain ⟨h1, h2, h3, P, p1, p2, p3, p4, p5, p6, p7, p8, p9⟩ := h
  have e : ∀ k, (Value.slice p k c).ownBlock = (Value.slice p N c).ownBlock := fun k => by cases p <;> rfl
  refine ⟨h1, h2, h3, P, p1, p2, p3, by rw [List.map_take]; exact p4.trunc m hm, p5, ?_, p7, ?_, ?_⟩
  · rw [e]; exact p6
  · rw [e]; exact p8
  · rw [e]; exact p9
theorem WS2.capA {p : Option Addr} {N c : Nat} (h : WS2 G w B gl d n (.slice p N c) A u C wr) : N ≤ c := by
  obtain ⟨h1, h2, h3, P, p1, p2, p3, p4, p5, p6, p7, p8, p9⟩ := h
  exact p4.capL
theorem WS2.next {d' : DSt} {n' : Nat} {w' : World} (h1 : w.heap.size ≤ B) (h2 : B ≤ gl) (h3 : Below w.heap.size w wr) {P : Nat → Prop} (p1 : P gl) (p4 : OwnV wr B 9 v (A.map strS)) (p5 : OwnV wr B 9 u (C.map strS)) (p6 : ∀ g, v.ownBlock = some g → P g ∧ g ≠ gl) (p7 : ∀ g, u.ownBlock = some g → P g ∧ g ≠ gl) (p8 : ∀ g, v.ownBlock = some g → u.ownBlock ≠ some g) (p9 : ∀ g, G g → P g ∧ g ≠ gl ∧ v.ownBlock ≠ some g ∧ u.ownBlock ≠ some g)
    (e2 : Dkp P w' B B d') (e3 : LogB w' gl B n') (e4 : BelowP (exP P gl) B wr w') : WS2 G w B gl d' n' v A u C w' ∧ Same2 G wr w' :=
  ⟨⟨h1, h2, h3.trans (e4.1.mono h1), P, p1, e2, e3, p4.belowP p6 e4, p5.belowP p7 e4, p6, p7, p8, p9⟩, fun b hb hl => e4.2 b ⟨(p9 b hb).1, (p9 b hb).2.1⟩ hl⟩
theorem w2_put (h : WS2 G w B gl d n v A u C wr) (x : Value) (ys : List Int) (hn : n ≤ 1000000) (ho : Oct ys) (hl : ys.length ≤ 100000000) (hr : Row .u8 wr x ys) :
    Calls Try.prog 14 #[.pointer (some ⟨gl, 0, none⟩), x] wr fun e w' => e = .returned (.int .i64 (putE d ys)) ∧ WS2 G w B gl (putD d ys) (if putE d ys = 0 then n + 1 else n) v A u C w' ∧ Same2 G wr w' := by
  obtain ⟨h1, h2, h3, P, p1, p2, p3, p4, p5, p6, p7, p8, p9⟩ := h
  refine (wput_any P wr B B gl n d x ys p2 p1 p3 hn h2 ho hl hr).mono ?_
  rintro e w' ⟨e1, e2, e3, e4⟩
  exact ⟨e1, WS2.next h1 h2 h3 p1 p4 p5 p6 p7 p8 p9 e2 e3 e4⟩
theorem w2_add (h : WS2 G w B gl d n v A u C wr) (x : Value) (ys : List Int) (hn : n ≤ 1000000) (ho : Oct ys) (hl : ys.length ≤ 100000000) (hr : Row .u8 wr x ys) :
    Calls Try.prog 15 #[.pointer (some ⟨gl, 0, none⟩), x] wr fun e w' => e = .returned (.int .i64 (addE d ys)) ∧ WS2 G w B gl (addD d ys) (if putE d ys = 0 then n + 1 else n) v A u C w' ∧ Same2 G wr w' := by
  obtain ⟨h1, h2, h3, P, p1, p2, p3, p4, p5, p6, p7, p8, p9⟩ := h
  refine (wadd_any P wr B B gl n d x ys p2 p1 p3 hn h2 ho hl hr).mono ?_
  rintro e w' ⟨e1, e2, e3, e4⟩
  exact ⟨e1, WS2.next h1 h2 h3 p1 p4 p5 p6 p7 p8 p9 e2 e3 e4⟩
theorem w2_sync (h : WS2 G w B gl d n v A u C wr) :
    Calls Try.prog 16 #[.pointer (some ⟨gl, 0, none⟩)] wr fun e w' => e = .returned (.int .i64 d.syncE) ∧ WS2 G w B gl d.syncD n v A u C w' ∧ Same2 G wr w' := by
  obtain ⟨h1, h2, h3, P, p1, p2, p3, p4, p5, p6, p7, p8, p9⟩ := h
  refine (wsync_any P wr B B gl n d p2 p1 p3).mono ?_
  rintro e w' ⟨e1, e2, e3, e4⟩
  exact ⟨e1, WS2.next h1 h2 h3 p1 p4 p5 p6 p7 p8 p9 e2 e3 (e4.weak (fun b hb => hb.1))⟩
theorem w2_renew (h : WS2 G w B gl d n v A u C wr) (x : Value) (dss : List (List Int)) (ho : ∀ d ∈ dss, Oct d) (hm : dss.length ≤ 1000) (hbig : ∀ d ∈ dss, d.length ≤ 100000000) (hr : RowSS wr x dss) :
    Calls Try.prog 17 #[.pointer (some ⟨gl, 0, none⟩), x] wr fun e w' => e = .returned (.int .i64 (renLE d dss)) ∧ WS2 G w B gl (renLD d dss) (if renewLE d dss = 0 then dss.length else n) v A u C w' ∧ Same2 G wr w' := by
  obtain ⟨h1, h2, h3, P, p1, p2, p3, p4, p5, p6, p7, p8, p9⟩ := h
  refine (wrenew_any P wr B B gl n d x dss p2 p1 p3 h2 ho hm hbig hr).mono ?_
  rintro e w' ⟨e1, e2, e3, e4⟩
  exact ⟨e1, WS2.next h1 h2 h3 p1 p4 p5 p6 p7 p8 p9 e2 e3 e4⟩
theorem w2_len (h : WS2 G w B gl d n v A u C wr) :
    Calls Try.prog 21 #[.pointer (some ⟨gl, 0, none⟩)] wr fun e w' => e = .returned (.int .i64 n) ∧ wr = w' := by
  obtain ⟨h1, h2, h3, P, p1, p2, p3, p4, p5, p6, p7, p8, p9⟩ := h
  exact wlen_any wr gl B n p3
theorem w2_down (h : WS2 G w B gl d n v A u C wr) :
    Calls Try.prog 20 #[.pointer (some ⟨B, 0, none⟩)] wr fun e w' => e = .returned (.bool d.dn) ∧ wr = w' := by
  obtain ⟨h1, h2, h3, P, p1, p2, p3, p4, p5, p6, p7, p8, p9⟩ := h
  exact down_any wr B B d p2.dk
theorem w2_crash (h : WS2 G w B gl d n v A u C wr) (k t : Int) (bt : 0 ≤ t ∧ t < 256) (hf : d.Fits) :
    Calls Try.prog 18 #[.pointer (some ⟨B, 0, none⟩), .int .i64 k, .int .u8 t] wr fun e w' => e = .returned (.tuple #[]) ∧ WS2 G w B gl (d.crashD k t) n v A u C w' ∧ Same2 G wr w' := by
  obtain ⟨h1, h2, h3, P, p1, p2, p3, p4, p5, p6, p7, p8, p9⟩ := h
  refine (crash_anyP P wr B B d k t bt p2 hf).mono ?_
  rintro e w' ⟨e1, e2, e4⟩
  exact ⟨e1, WS2.next h1 h2 h3 p1 p4 p5 p6 p7 p8 p9 e2 (Blk.belowP p3 e4 p1) (e4.weak (fun b hb => hb.1))⟩
theorem w2_up (h : WS2 G w B gl d n v A u C wr) (hf : d.Fits) :
    Calls Try.prog 22 #[.pointer (some ⟨B, 0, none⟩)] wr fun e w' => e = .returned (.tuple #[]) ∧ WS2 G w B gl d.upD n v A u C w' ∧ Same2 G wr w' := by
  obtain ⟨h1, h2, h3, P, p1, p2, p3, p4, p5, p6, p7, p8, p9⟩ := h
  refine (up_anyP P wr B B d p2 hf).mono ?_
  rintro e w' ⟨e1, e2, e4⟩
  exact ⟨e1, WS2.next h1 h2 h3 p1 p4 p5 p6 p7 p8 p9 e2 (Blk.belowP p3 e4 p1) (e4.weak (fun b hb => hb.1))⟩
theorem w2_fuse (h : WS2 G w B gl d n v A u C wr) (k : Int) (h1' : -9223372036854775808 ≤ k) (h2' : k ≤ 9223372036854775807) :
    Calls Try.prog 19 #[.pointer (some ⟨B, 0, none⟩), .int .i64 k] wr fun e w' => e = .returned (.tuple #[]) ∧ WS2 G w B gl (d.fuseD k) n v A u C w' ∧ Same2 G wr w' := by
  obtain ⟨h1, h2, h3, P, p1, p2, p3, p4, p5, p6, p7, p8, p9⟩ := h
  refine (fuse_anyP P wr B B d k h1' h2' p2).mono ?_
  rintro e w' ⟨e1, e2, e4⟩
  exact ⟨e1, WS2.next h1 h2 h3 p1 p4 p5 p6 p7 p8 p9 e2 (Blk.belowP p3 e4 p1) (e4.weak (fun b hb => hb.1))⟩
/-- Opened anew: another log. -/
theorem w2_open (h : WS2 G w B gl d n v A u C wr) (hl : d.all.length ≤ 1000000) (h0 : openE d = 0) :
    Calls Try.prog 13 #[.pointer (some ⟨B, 0, none⟩)] wr fun x w' => ∃ gm r, x = .returned (.tuple #[.pointer (some ⟨gm, 0, none⟩), r, .int .i64 0]) ∧ RowSF wr.heap.size w' r (scD d.all) ∧ WS2 none_ w B gm (openD d) (scD d.all).length v A u C w' := by
  obtain ⟨h1, h2, h3, P, p1, p2, p3, p4, p5, p6, p7, p8, p9⟩ := h
  have hBw : B ≤ wr.heap.size := Nat.le_of_lt p2.dk.lt
  have hvl := p4.lt
  have hul := p5.lt
  refine (wopen_any P wr B B d p2 hl).mono ?_
  rintro x w' ⟨_, h0'⟩
  obtain ⟨gm, r, e1, e2, e3, e4, e5, e6⟩ := h0' h0
  exact ⟨gm, r, e1, e4, h1, Nat.le_trans hBw e2, h3.trans (e6.1.mono h1), addP P gm, .inr rfl, e5, e3, p4.belowP (fun g hg => (p6 g hg).1) e6, p5.belowP (fun g hg => (p7 g hg).1) e6, fun g hg => ⟨.inl (p6 g hg).1, by have := hvl g hg; omega⟩, fun g hg => ⟨.inl (p7 g hg).1, by have := hul g hg; omega⟩, p8, fun g hg => hg.elim⟩
end
end Go.Proofs.Ytjbhcdmeeakdcaa
