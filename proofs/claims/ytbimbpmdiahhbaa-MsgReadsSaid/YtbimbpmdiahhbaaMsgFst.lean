/- The state in which msg.From reads: the reader, the message so far. -/
import Derived.Test.YtbimbpmdiahhbaaMsgCheck
import Derived.Test.YtbimbpmdiahhbaaReadB
import Derived.Test.YtbimbpmdiahhbaaEndA
import Derived.Test.YtbimbpmdiahhbaaReadA
import Derived.Test.YtbimbpmdiahhbaaAppG
import Derived.Test.YtbimbpmdiahhbaaRows8
import Derived.Test.YtbimbpmdiahhbaaTRow2
namespace Go.Proofs.Ytbimbpmdiahhbaa
open Go.RowKit
theorem rdr_lt {w : World} {g g0 : Nat} {zs : List Int} {e : Int} (h : Rdr w g g0 zs e) : zs = [] ∨ g0 < w.heap.size := by
  obtain ⟨v, _, ⟨p, c, _, _, hr⟩, _⟩ := h
  rcases hr with h | ⟨o, _, h⟩
  · exact .inl h
  · cases zs with
    | nil => exact .inl rfl
    | cons z zs => exact .inr (World.block_lt_of_cell? w _ (h 0 (by simp)))
theorem rdr_re {w : World} {g g0 g1 : Nat} {e : Int} (h : Rdr w g g0 [] e) (hn : g1 ≠ g) : Rdr w g g1 [] e := by
  obtain ⟨v, hb, ⟨p, c, e1, e2, _⟩, _⟩ := h
  exact ⟨v, hb, ⟨p, c, e1, e2, .inl rfl⟩, hn⟩
def zero11 : Array Value := #[.int .i64 0, .int .i64 0, .int .i64 0, .int .i64 0, .int .i64 0, .int .i64 0, .int .i64 0, .int .i64 0, .bool false, .slice none 0 0, .slice none 0 0]
theorem chg_put {b : Nat} {w : World} : ∀ (vs : List Value) (o : Nat) (W : World), Chg b w W → Chg b w (W.setCells b o vs)
  | [], _, _, h => h
  | v :: vs, o, W, h => by rw [World.setCells]; exact chg_put vs (o + 1) _ (h.set o v)
/-- From behind, at its end. -/
structure FEnd (w : World) (gr g0 g2 : Nat) (W : World) (r : RS) (cs : Array Value) (vl : Value) (xs : List Lin) (vn : Value) (ns : List Int) : Prop where
  rd : Rdr W gr g0 r.z r.e
  chg : Chg gr w W
  b2 : Blk W g2 cs 29
  ol : OwnT encN W w.heap.size 49 vl xs
  on : Own .i64 W w.heap.size 2 vn ns
structure FSt (w : World) (gr g0 g1 g2 gm : Nat) (wr : World) (r : RS) (cs : Array Value) (vl : Value) (xs : List Lin) (vn : Value) (ns : List Int) : Prop where
  rd : Rdr wr gr g0 r.z r.e
  chg : Chg gr w wr
  b1 : Blk wr g1 #[.pointer (some ⟨gr, 0, none⟩)] 39
  b2 : Blk wr g2 zero11 29
  bm : Blk wr gm cs 29
  ol : OwnT encN wr (gm + 1) 49 vl xs
  on : Own .i64 wr (gm + 1) 2 vn ns
  good : r.Good
  low : gr < w.heap.size
  ord : w.heap.size ≤ g1 ∧ g1 < g2 ∧ g2 < gm ∧ g0 < g2
section
variable {w wr : World} {gr g0 g1 g2 gm : Nat} {r : RS} {cs : Array Value} {vl vn : Value} {xs : List Lin} {ns : List Int}
theorem ownBlock_ne_of {v : Value} {g : Nat} (h : ∀ b, v.ownBlock = some b → g < b) : ∀ b, v.ownBlock = some b → b ≠ g := fun b hb e => by have := h b hb; omega
theorem FSt.step {wr' : World} {r' : RS} (h : FSt w gr g0 g1 g2 gm wr r cs vl xs vn ns) (hc : Chg gr wr wr') (hr : Rdr wr' gr g0 r'.z r'.e) (hg : r'.Good) : FSt w gr g0 g1 g2 gm wr' r' cs vl xs vn ns := by
  obtain ⟨o1, o2, o3, o4⟩ := h.ord
  have hl := h.low
  refine ⟨hr, h.chg.trans hc, h.b1.chg hc (by omega), h.b2.chg hc (by omega), h.bm.chg hc (by omega), ?_, ?_, hg, h.low, h.ord⟩
  · exact h.ol.stay (fun g hg => hc.2 g (h.ol.lt g hg) (by have := h.ol.block_ge g hg; omega))
  · exact h.on.chgV hc (fun e => by have := h.on.block_ge gr e; omega)
theorem FSt.below {wr' : World} (h : FSt w gr g0 g1 g2 gm wr r cs vl xs vn ns) (hb : Below wr.heap.size wr wr') : FSt w gr g0 g1 g2 gm wr' r cs vl xs vn ns :=
  h.step (Chg.of_below hb) (h.rd.below hb) h.good
theorem FSt.num (h : FSt w gr g0 g1 g2 gm wr r cs vl xs vn ns) : Calls Try.prog 23 #[.pointer (some ⟨gr, 0, none⟩)] wr fun e w' => e = .returned (.int .i64 r.numV) ∧ FSt w gr g0 g1 g2 gm w' r.num cs vl xs vn ns ∧ Chg gr wr w' := by
  refine (num_any gr g0 r.z r.e wr h.rd h.good.1 h.good.2).mono ?_
  rintro y w1 ⟨rfl, hc, hr⟩
  exact ⟨rfl, h.step hc hr h.good.num, hc⟩
theorem FSt.int (h : FSt w gr g0 g1 g2 gm wr r cs vl xs vn ns) (a b : Int) : Calls Try.prog 19 #[.pointer (some ⟨gr, 0, none⟩), .int .i64 a, .int .i64 b] wr fun e w' => e = .returned (.int .i64 (r.intV a b)) ∧ FSt w gr g0 g1 g2 gm w' (r.int a b) cs vl xs vn ns ∧ Chg gr wr w' := by
  refine (int_any gr g0 r.z r.e a b wr h.rd h.good.1 h.good.2).mono ?_
  rintro y w1 ⟨rfl, hc, hr⟩
  exact ⟨rfl, h.step hc hr (h.good.int a b), hc⟩
theorem FSt.bool (h : FSt w gr g0 g1 g2 gm wr r cs vl xs vn ns) : Calls Try.prog 24 #[.pointer (some ⟨gr, 0, none⟩)] wr fun e w' => e = .returned (.bool r.boolV) ∧ FSt w gr g0 g1 g2 gm w' r.bool cs vl xs vn ns ∧ Chg gr wr w' := by
  refine (bool_any gr g0 r.z r.e wr h.rd h.good.1 h.good.2).mono ?_
  rintro y w1 ⟨rfl, hc, hr⟩
  exact ⟨rfl, h.step hc hr h.good.bool, hc⟩
theorem FSt.err (h : FSt w gr g0 g1 g2 gm wr r cs vl xs vn ns) : Calls Try.prog 20 #[.pointer (some ⟨gr, 0, none⟩)] wr fun e w' => e = .returned (.int .i64 r.e) ∧ wr = w' := err_any gr g0 r.z r.e wr h.rd
theorem next_any (g : Nat) (hb : Blk wr g #[.pointer (some ⟨gr, 0, none⟩)] 39) (hr : Rdr wr gr g0 r.z r.e) (hg : r.Good) : Calls Try.prog 18 #[.pointer (some ⟨g, 0, none⟩)] wr fun e w' => e = .returned (.int .i64 r.nV) ∧ Chg gr wr w' ∧ Rdr w' gr g0 r.nx.z r.nx.e := by
  have hc : wr.cell? ⟨g, 0, none⟩ = some (.pointer (some ⟨gr, 0, none⟩)) := hb.cell 0
  have HR := Lib.hid hr
  have HG := Lib.hid hg
  clear hb hr hg
  go_enter Try.func18, Try.ntmps18
  go_wp2_with fail
  refine (int_any gr g0 r.z r.e 0 1073741824 wr HR.out HG.out.1 HG.out.2).mono ?_
  rintro y w1 ⟨rfl, hc1, hr1⟩
  have HC1 := Lib.hid hc1
  have HR1 := Lib.hid hr1
  clear hc1 hr1 hc
  go_wp2_with fail
  go_ret
  exact ⟨rfl, HC1.out, HR1.out⟩
theorem FSt.next (h : FSt w gr g0 g1 g2 gm wr r cs vl xs vn ns) : Calls Try.prog 18 #[.pointer (some ⟨g1, 0, none⟩)] wr fun e w' => e = .returned (.int .i64 r.nV) ∧ FSt w gr g0 g1 g2 gm w' r.nx cs vl xs vn ns ∧ Chg gr wr w' := by
  refine (next_any g1 h.b1 h.rd h.good).mono ?_
  rintro y w1 ⟨rfl, hc, hr⟩
  exact ⟨rfl, h.step hc hr h.good.nx, hc⟩
theorem FSt.set (h : FSt w gr g0 g1 g2 gm wr r cs vl xs vn ns) (i : Nat) (u : Value) : FSt w gr g0 g1 g2 gm (wr.setCell ⟨gm, i, none⟩ u) r (cs.setIfInBounds i u) vl xs vn ns := by
  obtain ⟨o1, o2, o3, o4⟩ := h.ord
  have hl := h.low
  have hc : Chg gm wr (wr.setCell ⟨gm, i, none⟩ u) := (Chg.refl gm wr).set i u
  refine ⟨h.rd.chg hc (by omega) (by omega), ⟨h.chg.1.trans hc.1, fun k hk hg => (hc.2 k (by have := h.chg.size; omega) (by omega)).trans (h.chg.2 k hk hg)⟩, h.b1.chg hc (by omega), h.b2.chg hc (by omega), h.bm.set i u, ?_, ?_, h.good, h.low, h.ord⟩
  · exact h.ol.stay (fun g hg => hc.2 g (h.ol.lt g hg) (by have := h.ol.block_ge g hg; omega))
  · exact h.on.chgV hc (fun e => by have := h.on.block_ge gm e; omega)
/-- A cell of a block of the call's own, somewhere else, is stored. -/
theorem FSt.setQ (h : FSt w gr g0 g1 g2 gm wr r cs vl xs vn ns) (q i : Nat) (u : Value) (hq : gm < q) (h1 : vl.ownBlock ≠ some q) (h2 : vn.ownBlock ≠ some q) : FSt w gr g0 g1 g2 gm (wr.setCell ⟨q, i, none⟩ u) r cs vl xs vn ns := by
  obtain ⟨o1, o2, o3, o4⟩ := h.ord
  have hl := h.low
  have hc : Chg q wr (wr.setCell ⟨q, i, none⟩ u) := (Chg.refl q wr).set i u
  refine ⟨h.rd.chg hc (by omega) (by omega), ⟨h.chg.1.trans hc.1, fun k hk hg => (hc.2 k (by have := h.chg.size; omega) (by omega)).trans (h.chg.2 k hk hg)⟩, h.b1.chg hc (by omega), h.b2.chg hc (by omega), h.bm.chg hc (by omega), ?_, ?_, h.good, h.low, h.ord⟩
  · exact h.ol.stay (fun g hg => hc.2 g (h.ol.lt g hg) (by intro e; subst e; exact h1 hg))
  · exact h.on.chgV hc (fun e => h2 e)
/-- What grows is one of its own rows. -/
theorem FSt.grownL (h : FSt w gr g0 g1 g2 gm wr r cs vl xs vn ns) {wr' : World} {vl' : Value} {xs' : List Lin} (hg : wr.grownBy wr' vl.ownBlock) (ho : OwnT encN wr' (gm + 1) 49 vl' xs') (hd : ∀ b, vn.ownBlock = some b → vl.ownBlock ≠ some b) : FSt w gr g0 g1 g2 gm wr' r cs vl' xs' vn ns := by
  obtain ⟨o1, o2, o3, o4⟩ := h.ord
  have hl := h.low
  have hb : ∀ b, vl.ownBlock = some b → gm + 1 ≤ b := h.ol.block_ge
  have hB : Below (gm + 1) wr wr' := (Below.refl _ _).grown hg (by have := h.bm.lt; omega) hb
  have hC : Chg gr w wr' := by
    refine ⟨h.chg.1.trans (hB.mono (Nat.zero_le _)), fun k hk hk2 => ?_⟩
    exact (hB.block k (by omega)).trans (h.chg.2 k hk hk2)
  refine ⟨?_, hC, h.b1.below hB (by omega), h.b2.below hB (by omega), h.bm.below hB (by omega), ho, ?_, h.good, h.low, h.ord⟩
  · obtain ⟨v, hv, hr, hn⟩ := h.rd
    exact ⟨v, hv.below hB (by omega), hr.below hB (fun _ => by omega), hn⟩
  · exact h.on.grown hg hd
theorem FSt.grownN (h : FSt w gr g0 g1 g2 gm wr r cs vl xs vn ns) {wr' : World} {vn' : Value} {ns' : List Int} (hg : wr.grownBy wr' vn.ownBlock) (ho : Own .i64 wr' (gm + 1) 2 vn' ns') (hd : ∀ b, vl.ownBlock = some b → vn.ownBlock ≠ some b) : FSt w gr g0 g1 g2 gm wr' r cs vl xs vn' ns' := by
  obtain ⟨o1, o2, o3, o4⟩ := h.ord
  have hl := h.low
  have hb : ∀ b, vn.ownBlock = some b → gm + 1 ≤ b := h.on.block_ge
  have hB : Below (gm + 1) wr wr' := (Below.refl _ _).grown hg (by have := h.bm.lt; omega) hb
  have hC : Chg gr w wr' := by
    refine ⟨h.chg.1.trans (hB.mono (Nat.zero_le _)), fun k hk hk2 => ?_⟩
    exact (hB.block k (by omega)).trans (h.chg.2 k hk hk2)
  refine ⟨?_, hC, h.b1.below hB (by omega), h.b2.below hB (by omega), h.bm.below hB (by omega), ?_, ho, h.good, h.low, h.ord⟩
  · obtain ⟨v, hv, hr, hn⟩ := h.rd
    exact ⟨v, hv.below hB (by omega), hr.below hB (fun _ => by omega), hn⟩
  · exact h.ol.stay (fun g hgg => hg.block g (h.ol.lt g hgg) (fun e => hd g hgg e.symm))
theorem FSt.fin (h : FSt w gr g0 g1 g2 gm wr r cs vl xs vn ns) (cs' : Array Value) (hs : cs'.size = 11) : FEnd w gr g0 g2 (wr.setCells g2 0 cs'.toList) r cs' vl xs vn ns := by
  obtain ⟨o1, o2, o3, o4⟩ := h.ord
  have hl := h.low
  have hc : Chg g2 wr (wr.setCells g2 0 cs'.toList) := chg_put _ _ _ (Chg.refl g2 wr)
  refine ⟨?_, ⟨h.chg.1.trans hc.1, fun k hk hg => (hc.2 k (by have := h.chg.size; omega) (by omega)).trans (h.chg.2 k hk hg)⟩, blk_put_all h.b2 cs' (by rw [hs]; rfl), ?_, ?_⟩
  · exact h.rd.chg hc (by omega) (by omega)
  · exact (h.ol.stay (fun g hg => hc.2 g (h.ol.lt g hg) (by have := h.ol.block_ge g hg; omega))).less (by omega)
  · exact own_down (h.on.chgV hc (fun e => by have := h.on.block_ge g2 e; omega)) (by omega)
theorem FSt.there2 (h : FSt w gr g0 g1 g2 gm wr r cs vl xs vn ns) : wr.there g2 0 11 := h.b2.thereAt
end
end Go.Proofs.Ytbimbpmdiahhbaa
