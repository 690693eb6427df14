/- MatchTwice: its walk. -/
import Derived.Test.YtmfodfimglllkaaMatchDo
namespace Go.Proofs.Ytmfodfimglllkaa
open Go.RowKit
set_option linter.unusedSimpArgs false
theorem beh_bad2 {d : Dsk} {r : Itm × Int} {ks : List Int} (h : r.2 ≠ 0) : d.beh r ks = (d, [], r.2) := by
  unfold Dsk.beh
  rw [if_neg h]
theorem find_ins (xs : List Itm) (x : Itm) : findX (insX xs x) x.s x.n = some x := by
  unfold findX insX
  rw [List.append_assoc, List.find?_append]
  have h1 : (xs.filter (fun z => decide (ordP (posI z) (posI x) < 0))).find? (fun z => decide (z.s = x.s ∧ z.n = x.n)) = none := by
    rw [List.find?_eq_none]
    intro z hz
    have h2 := of_decide_eq_true (List.mem_filter.1 hz).2
    rw [ordP_lt] at h2
    simp only [decide_eq_true_eq, not_and]
    unfold posI at h2
    dsimp only at h2
    omega
  rw [h1]
  simp
theorem sold_put (d : Dsk) (x : Itm) (s n : Int) (hs : x.s = s) (hn : x.n = n) : soldA (d.put x) s n = if x.s = d.me then (x, 0) else (x, 140) := by
  subst hs hn
  unfold soldA
  rw [show findX (d.put x).xs x.s x.n = some x from find_ins d.xs x]
  rfl
theorem betw_put (d : Dsk) (x : Itm) (s n r se bu : Int) (hs : x.s = s) (hn : x.n = n) : betwA (d.put x) s n r se bu = if x.s ≠ se ∨ x.b ≠ bu then (x, 140) else if x.r ≠ r then (x, 90) else (x, 0) := by
  subst hs hn
  unfold betwA
  rw [show findX (d.put x).xs x.s x.n = some x from find_ins d.xs x]
theorem sold_ok {d : Dsk} {s n : Int} (h : (soldA d s n).2 = 0) : (soldA d s n).1.s = s ∧ (soldA d s n).1.n = n ∧ (soldA d s n).1.s = d.me := by
  unfold soldA at h ⊢
  split at h
  · cases h
  · rename_i q hq
    split at h
    · rename_i h1
      rw [if_pos h1]
      exact ⟨(findX_mem hq).2.1, (findX_mem hq).2.2, h1⟩
    · cases h
theorem betw_ok {d : Dsk} {s n r se bu : Int} (h : (betwA d s n r se bu).2 = 0) : (betwA d s n r se bu).1.s = s ∧ (betwA d s n r se bu).1.n = n ∧ (betwA d s n r se bu).1.s = se ∧ (betwA d s n r se bu).1.b = bu ∧ (betwA d s n r se bu).1.r = r := by
  unfold betwA at h ⊢
  split at h
  · cases h
  · rename_i q hq
    split at h
    · cases h
    · rename_i h1
      split at h
      · cases h
      · rename_i h2
        rw [if_neg h1, if_neg h2]
        exact ⟨(findX_mem hq).2.1, (findX_mem hq).2.2, Classical.not_not.1 (fun h => h1 (.inl h)), Classical.not_not.1 (fun h => h1 (.inr h)), Classical.not_not.1 h2⟩
theorem turn_ok {x : Itm} {f t : Int} (h : (turnI x f t).2 = 0) : x.t = f ∧ turnI x f t = ({ x with t := t }, 0) := by
  unfold turnI at h ⊢
  split at h
  · rename_i h1
    rw [if_pos h1]
    exact ⟨h1, rfl⟩
  · cases h
theorem turn_no {x : Itm} {f t : Int} (h : x.t ≠ f) : turnI x f t = (x, 90) := by
  unfold turnI
  rw [if_neg h]
theorem adj_ok {x : Itm} {n : Int} (h : (adjI x n).2 = 0) : adjI x n = ({ x with t := 1, r := x.r + 1, a := n }, 0) := by
  unfold adjI at h ⊢
  split at h
  · rename_i h1
    split at h
    · rename_i h2
      split at h
      · cases h
      · rename_i h3
        rw [if_pos h1, if_pos h2, if_neg h3]
    · cases h
  · cases h
theorem then_ok {p : Itm × Int} {f : Itm → Itm × Int} (h : (thenA p f).2 = 0) : p.2 = 0 ∧ thenA p f = f p.1 := by
  unfold thenA at h ⊢
  by_cases hp : p.2 = 0
  · rw [if_pos hp]; exact ⟨hp, rfl⟩
  · rw [if_neg hp] at h; exact absurd h hp
theorem beh_good {d d1 : Dsk} {r : Itm × Int} {ks : List Int} {out : List (Int × Msg)} (h : d.beh r ks = (d1, out, 0)) : r.2 = 0 ∧ d1 = d.put r.1 := by
  unfold Dsk.beh at h
  by_cases h0 : r.2 = 0
  · rw [if_pos h0] at h
    exact ⟨h0, (Prod.mk.inj h).1.symm⟩
  · rw [if_neg h0] at h
    exact absurd (Prod.mk.inj (Prod.mk.inj h).2).2 h0
theorem again_sold {d : Dsk} {s n : Int} {f : Itm → Itm × Int} (h : (thenA (soldA d s n) f).2 = 0) (hx : ∀ q, (f q).2 = 0 → (f q).1.s = q.s ∧ (f q).1.n = q.n ∧ (f (f q).1).2 ≠ 0) : (thenA (soldA (d.put (thenA (soldA d s n) f).1) s n) f).2 ≠ 0 := by
  obtain ⟨h2, h3⟩ := then_ok h
  obtain ⟨h4, h5, h6⟩ := sold_ok h2
  rw [h3] at h ⊢
  obtain ⟨h7, h8, h9⟩ := hx _ h
  rw [sold_put d _ s n (h7.trans h4) (h8.trans h5), if_pos (h7.trans h6)]
  exact h9
theorem betw_again {d : Dsk} {s n r se bu : Int} {f : Itm → Itm × Int} {x : Itm} (h1 : x.s = s) (h2 : x.n = n) (h3 : x.s = se) (h4 : x.b = bu) (h5 : x.r = r) : thenA (betwA (d.put x) s n r se bu) f = f x := by
  rw [betw_put d x s n r se bu h1 h2, if_neg (by rintro (h | h); exact h h3; exact h h4), if_neg (fun h => h h5)]
  rfl
theorem again_betw {d : Dsk} {s n r se bu : Int} {f : Itm → Itm × Int} (h : (thenA (betwA d s n r se bu) f).2 = 0) (hx : ∀ q, (f q).2 = 0 → (f q).1.s = q.s ∧ (f q).1.n = q.n ∧ (f q).1.b = q.b ∧ (f q).1.r = q.r ∧ (f (f q).1).2 ≠ 0) : (thenA (betwA (d.put (thenA (betwA d s n r se bu) f).1) s n r se bu) f).2 ≠ 0 := by
  obtain ⟨h2, h3⟩ := then_ok h
  obtain ⟨h4, h5, h6, h6b, h6c⟩ := betw_ok h2
  rw [h3] at h ⊢
  obtain ⟨h7, h8, h8b, h8c, h9⟩ := hx _ h
  rw [betw_again (h7.trans h4) (h8.trans h5) (h7.trans h6) (h8b.trans h6b) (h8c.trans h6c)]
  exact h9
theorem turn_again {f t : Int} (hft : t ≠ f) (q : Itm) (h : (turnI q f t).2 = 0) : (turnI q f t).1.s = q.s ∧ (turnI q f t).1.n = q.n ∧ (turnI q f t).1.b = q.b ∧ (turnI q f t).1.r = q.r ∧ (turnI (turnI q f t).1 f t).2 ≠ 0 := by
  obtain ⟨h1, h2⟩ := turn_ok h
  rw [h2]
  refine ⟨rfl, rfl, rfl, rfl, ?_⟩
  rw [turn_no (show ({ q with t := t } : Itm).t ≠ f from hft)]
  exact (by decide : (90 : Int) ≠ 0)
theorem disp_again {d : Dsk} {m : Msg} {fro : Int} (h : (dispR (dispI d m fro)).2 = 0) : (dispR (dispI (d.put (dispR (dispI d m fro)).1) m fro)).2 ≠ 0 := by
  have hr0 : (dispI d m fro).2 = 0 := by
    unfold dispR at h
    split at h
    · exact h
    · rename_i h1
      omega
  have hr1 := hr0
  unfold dispI at hr1
  obtain ⟨h2, h3⟩ := then_ok hr1
  obtain ⟨h4, h5, h6, h6b, h6c⟩ := betw_ok h2
  have hdi : dispI d m fro = turnI (betwA d m.s m.n m.r d.me fro).1 1 2 := h3
  rw [h3] at hr1
  obtain ⟨h7, h8⟩ := turn_ok hr1
  have hx : ∃ t, t ≠ 1 ∧ (dispR (dispI d m fro)).1 = { (betwA d m.s m.n m.r d.me fro).1 with t := t } := by
    rw [hdi, h8]
    unfold dispR
    split
    · exact ⟨2, by decide, rfl⟩
    · exact ⟨4, by decide, rfl⟩
  obtain ⟨t, ht, hx⟩ := hx
  rw [hx]
  have hs : dispI (d.put { (betwA d m.s m.n m.r d.me fro).1 with t := t }) m fro = ({ (betwA d m.s m.n m.r d.me fro).1 with t := t }, 90) := by
    unfold dispI
    show thenA (betwA (d.put { (betwA d m.s m.n m.r d.me fro).1 with t := t }) m.s m.n m.r d.me fro) _ = _
    rw [betw_again (x := { (betwA d m.s m.n m.r d.me fro).1 with t := t }) h4 h5 h6 h6b h6c, turn_no (show ({ (betwA d m.s m.n m.r d.me fro).1 with t := t } : Itm).t ≠ 1 from ht)]
  rw [hs]
  exact (by decide : (90 : Int) ≠ 0)
theorem issue_again {d : Dsk} {m : Msg} (h : (issueI d m).2 = 0) : (issueI (d.put (issueI d m).1) m).2 ≠ 0 := by
  have hx : m.s = d.me ∧ (issueI d m).1.s = m.s ∧ (issueI d m).1.n = m.n := by
    unfold issueI at h ⊢
    split at h
    · cases h
    · rename_i h1
      split at h
      · cases h
      · rename_i h2
        rw [if_neg h1, if_neg h2]
        unfold newA at h ⊢
        split at h
        · rename_i h3
          rw [if_pos h3]
          exact ⟨Classical.not_not.1 h1, rfl, rfl⟩
        · rename_i h3
          exact absurd h h3
  obtain ⟨h1, h2, h3⟩ := hx
  generalize (issueI d m).1 = x at *
  unfold issueI
  rw [if_neg (fun hq => hq h1)]
  show (if (findX (insX d.xs x) m.s m.n).isSome then (itm0, (5 : Int)) else _).2 ≠ 0
  rw [← h2, ← h3, find_ins]
  exact (by decide : (5 : Int) ≠ 0)
theorem due_again {d : Dsk} {m : Msg} (h : (dueI d m).2 = 0) : (dueI (d.put (dueI d m).1) m).2 ≠ 0 := by
  have hd : dueI d m = thenA (soldA d m.s m.n) (fun x => turnI x 2 4) := by
    unfold dueI at h ⊢
    split at h
    · cases h
    · rename_i h1
      rw [if_neg h1]
  have h0 := h
  rw [hd] at h0 ⊢
  have h2 := again_sold h0 (fun q hq => ⟨(turn_again (by decide) q hq).1, (turn_again (by decide) q hq).2.1, (turn_again (by decide) q hq).2.2.2.2⟩)
  unfold dueI
  split
  · exact (by decide : (90 : Int) ≠ 0)
  · exact h2
theorem pro_again {d : Dsk} {m : Msg} {fro : Int} (h : (proI d m fro).2 = 0) : (proI (d.put (proI d m fro).1) m fro).2 ≠ 0 := by
  have hx : chkI (itemM m) = 0 ∧ ¬ (m.s ≠ fro ∨ m.b ≠ d.me) ∧ (proI d m fro).1.s = m.s ∧ (proI d m fro).1.n = m.n ∧ (proI d m fro).1.r = m.r := by
    unfold proI at h ⊢
    by_cases h1 : chkI (itemM m) = 0
    · rw [if_neg (fun hq => hq h1)] at h ⊢
      by_cases h2 : m.s ≠ fro ∨ m.b ≠ d.me
      · rw [if_pos h2] at h
        cases h
      · rw [if_neg h2] at h ⊢
        split at h
        · cases h
        · rename_i h3
          rw [if_neg h3]
          refine ⟨h1, h2, ?_⟩
          split
          · exact ⟨rfl, rfl, rfl⟩
          · exact ⟨rfl, rfl, rfl⟩
    · rw [if_pos h1] at h
      exact absurd h h1
  obtain ⟨h1, h2, h3, h4, h5⟩ := hx
  generalize (proI d m fro).1 = x at *
  have hf : followsB (d.put x) (itemM m) = false := by
    have e : findX (d.put x).xs (itemM m).s (itemM m).n = some x := by
      show findX (insX d.xs x) m.s m.n = some x
      rw [← h3, ← h4, find_ins]
    unfold followsB
    rw [e]
    show ((x.t == 2) && ((x.r + 1 == m.r) && (x.c == m.c))) = false
    have : (x.r + 1 == m.r) = false := by rw [beq_eq_false_iff_ne]; omega
    rw [this]
    simp
  unfold proI
  rw [if_neg (fun hq => hq h1), if_neg (show ¬ (m.s ≠ fro ∨ m.b ≠ (d.put x).me) from h2), if_pos hf]
  exact (by decide : (90 : Int) ≠ 0)
theorem adj_again (a : Int) (q : Itm) (h : (adjI q a).2 = 0) : (adjI q a).1.s = q.s ∧ (adjI q a).1.n = q.n ∧ (adjI (adjI q a).1 a).2 ≠ 0 := by
  have h1 := adj_ok h
  rw [h1]
  refine ⟨rfl, rfl, ?_⟩
  unfold adjI
  rw [if_neg (show ¬ (1 : Int) = 2 by decide)]
  exact (by decide : (90 : Int) ≠ 0)
/-- What is heard twice does nothing the second time. -/
theorem twice {d d1 : Dsk} {m : Msg} {fro : Int} {out : List (Int × Msg)} (hk : m.k ≠ 2) (h : doM d m fro = (d1, out, 0)) : ∃ e, e ≠ 0 ∧ doM d1 m fro = (d1, [], e) := by
  have fin : ∀ (r' : Itm × Int) (ks : List Int), r'.2 ≠ 0 → ∃ e, e ≠ 0 ∧ d1.beh r' ks = (d1, [], e) := fun r' ks hr => ⟨r'.2, hr, beh_bad2 hr⟩
  unfold doM at h ⊢
  by_cases hc : fro = -1
  · rw [if_pos hc] at h ⊢
    unfold clientM at h ⊢
    by_cases k1 : m.k = 1
    · rw [if_pos k1] at h ⊢
      obtain ⟨h1, rfl⟩ := beh_good h
      exact fin _ _ (issue_again h1)
    rw [if_neg k1, if_neg hk] at h ⊢
    by_cases k3 : m.k = 3
    · rw [if_pos k3] at h ⊢
      obtain ⟨h1, rfl⟩ := beh_good h
      exact fin _ _ (again_sold h1 (fun q hq => adj_again _ q hq))
    rw [if_neg k3] at h ⊢
    by_cases k4 : m.k = 4
    · rw [if_pos k4] at h ⊢
      obtain ⟨h1, rfl⟩ := beh_good h
      exact fin _ _ (again_sold h1 (fun q hq => ⟨(turn_again (by decide) q hq).1, (turn_again (by decide) q hq).2.1, (turn_again (by decide) q hq).2.2.2.2⟩))
    rw [if_neg k4] at h ⊢
    by_cases k5 : m.k = 16
    · rw [if_pos k5] at h ⊢
      obtain ⟨h1, rfl⟩ := beh_good h
      exact fin _ _ (due_again h1)
    rw [if_neg k5] at h
    cases h
  · rw [if_neg hc] at h ⊢
    unfold nodeM at h ⊢
    by_cases k1 : m.k = 6
    · rw [if_pos k1] at h ⊢
      obtain ⟨h1, rfl⟩ := beh_good h
      exact fin _ _ (pro_again h1)
    rw [if_neg k1] at h ⊢
    by_cases k2 : m.k = 7
    · rw [if_pos k2] at h ⊢
      obtain ⟨h1, rfl⟩ := beh_good h
      exact fin _ _ (again_betw h1 (fun q hq => turn_again (by decide) q hq))
    rw [if_neg k2] at h ⊢
    by_cases k3 : m.k = 8
    · rw [if_pos k3] at h ⊢
      obtain ⟨h1, rfl⟩ := beh_good h
      exact fin _ _ (disp_again h1)
    rw [if_neg k3] at h ⊢
    by_cases k4 : m.k = 9
    · rw [if_pos k4] at h ⊢
      obtain ⟨h1, rfl⟩ := beh_good h
      exact fin _ _ (again_betw h1 (fun q hq => turn_again (by decide) q hq))
    rw [if_neg k4] at h
    cases h
/-- What is refused changes nothing. -/
theorem refused {d d1 : Dsk} {m : Msg} {fro e : Int} {out : List (Int × Msg)} (hk : m.k ≠ 2) (h : doM d m fro = (d1, out, e)) (he : e ≠ 0) : d1 = d ∧ out = [] := by
  have fin : ∀ (r : Itm × Int) (ks : List Int), d.beh r ks = (d1, out, e) → d1 = d ∧ out = [] := by
    intro r ks hr
    unfold Dsk.beh at hr
    split at hr
    · cases hr
      exact absurd rfl he
    · cases hr
      exact ⟨rfl, rfl⟩
  unfold doM clientM nodeM at h
  repeat' split at h
  all_goals first
    | exact fin _ _ h
    | (cases h; exact ⟨rfl, rfl⟩)
    | exact absurd ‹m.k = 2› hk
set_option linter.unusedSimpArgs false in
set_option maxHeartbeats 4000000 in
set_option maxRecDepth 100000 in
theorem twice_walk (me : Int) (p : Option Addr) (n c : Nat) (ws : List SdX) (y : SdX) (w : World) (_hb : -9223372036854775808 ≤ me ∧ me ≤ 9223372036854775807) (hx : TRow encS w (.slice p n c) ws) : Calls Try.prog 5 #[.int .i64 me, .slice p n c, .agg y.cells.toArray] w fun e w' => e = .returned (.bool true) ∧ Below w.heap.size w w' := by
  have HMA := Lib.hid (fun W => matches_any W)
  have HX := Lib.hid hx
  have hln : n = ws.length := by
    obtain ⟨p', c', e1⟩ := hx.shape
    exact (Value.slice.inj e1).2.1
  rw [show y.cells.toArray = #[.int .i64 y.tw, .int .i64 y.x.m.k, .int .i64 y.x.m.s, .int .i64 y.x.m.n, .int .i64 y.x.m.b, .int .i64 y.x.m.c, .int .i64 y.x.m.r, .int .i64 y.x.m.y, .int .i64 y.x.m.a, .bool y.x.m.t, .slice y.x.pl y.x.m.ls.length y.x.cl, .slice y.x.pn y.x.m.ns.length y.x.cn] from rfl]
  have HWB : Hid (Blk (w.alloc (.cells #[.int .i64 y.tw, .int .i64 y.x.m.k, .int .i64 y.x.m.s, .int .i64 y.x.m.n, .int .i64 y.x.m.b, .int .i64 y.x.m.c, .int .i64 y.x.m.r, .int .i64 y.x.m.y, .int .i64 y.x.m.a, .bool y.x.m.t, .slice y.x.pl y.x.m.ls.length y.x.cl, .slice y.x.pn y.x.m.ns.length y.x.cn] 42)) w.heap.size #[.int .i64 y.tw, .int .i64 y.x.m.k, .int .i64 y.x.m.s, .int .i64 y.x.m.n, .int .i64 y.x.m.b, .int .i64 y.x.m.c, .int .i64 y.x.m.r, .int .i64 y.x.m.y, .int .i64 y.x.m.a, .bool y.x.m.t, .slice y.x.pl y.x.m.ls.length y.x.cl, .slice y.x.pn y.x.m.ns.length y.x.cn] 42) := Blk.new w _ _
  have HBM := Lib.hid (oneB w (.cells #[.int .i64 y.tw, .int .i64 y.x.m.k, .int .i64 y.x.m.s, .int .i64 y.x.m.n, .int .i64 y.x.m.b, .int .i64 y.x.m.c, .int .i64 y.x.m.r, .int .i64 y.x.m.y, .int .i64 y.x.m.a, .bool y.x.m.t, .slice y.x.pl y.x.m.ls.length y.x.cl, .slice y.x.pn y.x.m.ns.length y.x.cn] 42))
  clear hx
  go_enter Try.func5, Try.ntmps5
  go_upto_region 1 with fail
  generalize w.alloc (.cells #[.int .i64 y.tw, .int .i64 y.x.m.k, .int .i64 y.x.m.s, .int .i64 y.x.m.n, .int .i64 y.x.m.b, .int .i64 y.x.m.c, .int .i64 y.x.m.r, .int .i64 y.x.m.y, .int .i64 y.x.m.a, .bool y.x.m.t, .slice y.x.pl y.x.m.ls.length y.x.cl, .slice y.x.pn y.x.m.ns.length y.x.cn] 42) = wB at *
  go_wp2_with fail
  refine (HMA.out _).mono ?_
  rintro y9 w0 ⟨rfl, hb⟩
  have HW0 := Lib.hid (HWB.out.below hb HWB.out.lt)
  have HB00 := Lib.hid (HBM.out.trans (hb.mono HBM.out.size))
  clear hb HBM HWB HMA
  have z1 : w0.cell? ⟨w.heap.size, 1, none⟩ = some (.int .i64 y.x.m.k) := HW0.out.cell 1
  by_cases hm0 : me < 0
  · go_wp2_with fail
    go_ret
    exact ⟨rfl, HB00.out⟩
  by_cases hm7 : 7 < me
  · go_wp2_with fail
    go_ret
    exact ⟨rfl, HB00.out⟩
  by_cases hn40 : 40 < n
  · have hn40I : (40 : Int) < (n : Int) := by omega
    go_wp2_with fail
    go_ret
    exact ⟨rfl, HB00.out⟩
  have hn40I : ¬ (40 : Int) < (n : Int) := by omega
  by_cases hk2 : y.x.m.k = 2
  · have hk2b : (y.x.m.k == 2) = true := by simpa using hk2
    clear hk2
    go_wp2_with fail
    go_ret
    exact ⟨rfl, HB00.out⟩
  have hk2b : (y.x.m.k == 2) = false := by simpa using hk2
  have HK2 : Hid (y.x.m.k ≠ 2) := hk2
  clear hk2
  go_upto_region 5 with fail
  have HN40 : Hid (n ≤ 40) := by show _ ≤ _; omega
  have HDA := Lib.hid (fun W => desk_any W me 10 (by omega))
  have HME : Hid (0 ≤ me ∧ me < 8) := ⟨by omega, by omega⟩
  clear z1
  generalize hD1 : decide ((40 : Int) < (n : Int)) = D1 at *
  generalize hD2 : decide (me < 0) = D2 at *
  generalize hD3 : decide (7 < me) = D3 at *
  generalize hD4 : (y.x.m.k == 2) = D4 at *
  clear hD1 hD2 hD3 hD4 hn40I hn40 hm0 hm7 hk2b
  go_wp2_with fail
  refine (HDA.out _).mono ?_
  rintro y9 w1 ⟨rfl, hb⟩
  have Hw0 := Lib.hid (HW0.out.below hb HW0.out.lt)
  have HB0 := Lib.hid (HB00.out.trans (hb.mono HB00.out.size))
  have HZ0 : Hid (w.heap.size ≤ w1.heap.size) := Lib.hid HB0.out.size
  have n0 : Hid (w.heap.size < w1.heap.size) := Lib.hid Hw0.out.lt
  clear hb HB00 HW0 HDA
  have Hw1 := Lib.hid (Hw0.out.alloc (.cells #[.int .i64 me, .slice none 0 0, .slice none 0 0, .int .i64 10] 29))
  have Hd1 := Lib.hid (Blk.new w1 #[.int .i64 me, .slice none 0 0, .slice none 0 0, .int .i64 10] 29)
  have HB1 := Lib.hid (HB0.out.alloc HB0.out.size (.cells #[.int .i64 me, .slice none 0 0, .slice none 0 0, .int .i64 10] 29))
  have HZ1 : Hid (w.heap.size ≤ (w1.alloc (.cells #[.int .i64 me, .slice none 0 0, .slice none 0 0, .int .i64 10] 29)).heap.size) := Lib.hid (Nat.le_trans HZ0.out (oneB w1 (.cells #[.int .i64 me, .slice none 0 0, .slice none 0 0, .int .i64 10] 29)).size)
  clear Hw0 HB0 HZ0
  go_upto_region 6 with fail
  generalize (w1.alloc (.cells #[.int .i64 me, .slice none 0 0, .slice none 0 0, .int .i64 10] 29)) = wA at *
  generalize hggd : w1.heap.size = gd at *
  obtain ⟨B, hB⟩ : ∃ B, B = wA.heap.size := ⟨_, rfl⟩
  have n3 : gd < B := by rw [hB]; exact Hd1.out.lt
  have NG : Hid (w.heap.size < gd ∧ gd < B) := ⟨n0.out, n3⟩
  clear HZ1
  have HZ1 : Hid (B ≤ wA.heap.size) := Lib.hid (Nat.le_of_eq hB)
  clear hB n0 n3
  have Kd1 := Lib.hid (dkR0 (fun b => B ≤ b) wA me 10 HME.out (by unfold Fits; omega))
  go_wp2_with fail
  go_loopw [44] (fun i wr => ∃ (k : Nat) (d : Dsk) (pi : Option Addr) (ci : Nat) (po : Option Addr) (co : Nat), k ≤ n ∧ i = .int .i64 k ∧ Hid (d.xs.length ≤ k ∧ d.os.length ≤ k) ∧ Hid (Blk wr gd #[.int .i64 d.me, .slice pi d.xs.length ci, .slice po d.os.length co, .int .i64 d.far] 29) ∧ Hid (DkR (fun b => B ≤ b) wr d pi ci po co) ∧ Hid (Blk wr w.heap.size #[.int .i64 y.tw, .int .i64 y.x.m.k, .int .i64 y.x.m.s, .int .i64 y.x.m.n, .int .i64 y.x.m.b, .int .i64 y.x.m.c, .int .i64 y.x.m.r, .int .i64 y.x.m.y, .int .i64 y.x.m.a, .bool y.x.m.t, .slice y.x.pl y.x.m.ls.length y.x.cl, .slice y.x.pn y.x.m.ns.length y.x.cn] 42) ∧ Hid (Below w.heap.size w wr) ∧ Hid (B ≤ wr.heap.size)) (fun i _ => n - (intOf i).toNat)
  case atStart => exact ⟨0, dsk0 me 10, none, 0, none, 0, by omega, rfl, ⟨Nat.le_refl _, Nat.le_refl _⟩, Hd1, Kd1, Hw1, HB1, HZ1⟩
  case round =>
    obtain ⟨k, d, pi, ci, po, co, hk, rfl, HL, Hd90, Kd90, Hw90, HB90, HZ90⟩ := hrel
    clear Hd1 Kd1 Hw1 HB1 HZ1
    by_cases hlt : k < n
    · skip
      have hltI : (k : Int) < (n : Int) := by omega
      have hkw : k < ws.length := by omega
      obtain ⟨b, o, rfl, hbl, hcs⟩ := (HX.out.kept HB90.out).at_ k hkw
      generalize ws[k] = x at *
      have c0 : wr.cell? ⟨b, o + k * 12, none⟩ = some (.int .i64 x.tw) := hcs 0 (by decide)
      have c1 : wr.cell? ⟨b, o + k * 12 + 1, none⟩ = some (.int .i64 x.x.m.k) := hcs 1 (by decide)
      have c2 : wr.cell? ⟨b, o + k * 12 + 2, none⟩ = some (.int .i64 x.x.m.s) := hcs 2 (by decide)
      have c3 : wr.cell? ⟨b, o + k * 12 + 3, none⟩ = some (.int .i64 x.x.m.n) := hcs 3 (by decide)
      have c4 : wr.cell? ⟨b, o + k * 12 + 4, none⟩ = some (.int .i64 x.x.m.b) := hcs 4 (by decide)
      have c5 : wr.cell? ⟨b, o + k * 12 + 5, none⟩ = some (.int .i64 x.x.m.c) := hcs 5 (by decide)
      have c6 : wr.cell? ⟨b, o + k * 12 + 6, none⟩ = some (.int .i64 x.x.m.r) := hcs 6 (by decide)
      have c7 : wr.cell? ⟨b, o + k * 12 + 7, none⟩ = some (.int .i64 x.x.m.y) := hcs 7 (by decide)
      have c8 : wr.cell? ⟨b, o + k * 12 + 8, none⟩ = some (.int .i64 x.x.m.a) := hcs 8 (by decide)
      have c9 : wr.cell? ⟨b, o + k * 12 + 9, none⟩ = some (.bool x.x.m.t) := hcs 9 (by decide)
      have c10 : wr.cell? ⟨b, o + k * 12 + 10, none⟩ = some (.slice x.x.pl x.x.m.ls.length x.x.cl) := hcs 10 (by decide)
      have c11 : wr.cell? ⟨b, o + k * 12 + 11, none⟩ = some (.slice x.x.pn x.x.m.ns.length x.x.cn) := hcs 11 (by decide)
      clear hcs hbl
      have HK40 : Hid (k < 40 ∧ k + 1 ≤ n) := ⟨by have := HN40.out; omega, by omega⟩
      have Hw91 := Lib.hid (Hw90.out.alloc (.cells #[.int .i64 x.tw, .int .i64 x.x.m.k, .int .i64 x.x.m.s, .int .i64 x.x.m.n, .int .i64 x.x.m.b, .int .i64 x.x.m.c, .int .i64 x.x.m.r, .int .i64 x.x.m.y, .int .i64 x.x.m.a, .bool x.x.m.t, .slice x.x.pl x.x.m.ls.length x.x.cl, .slice x.x.pn x.x.m.ns.length x.x.cn] 42))
      have Hd91 := Lib.hid (Hd90.out.alloc (.cells #[.int .i64 x.tw, .int .i64 x.x.m.k, .int .i64 x.x.m.s, .int .i64 x.x.m.n, .int .i64 x.x.m.b, .int .i64 x.x.m.c, .int .i64 x.x.m.r, .int .i64 x.x.m.y, .int .i64 x.x.m.a, .bool x.x.m.t, .slice x.x.pl x.x.m.ls.length x.x.cl, .slice x.x.pn x.x.m.ns.length x.x.cn] 42))
      have Kd91 := Lib.hid (Kd90.out.kept (oneB wr (.cells #[.int .i64 x.tw, .int .i64 x.x.m.k, .int .i64 x.x.m.s, .int .i64 x.x.m.n, .int .i64 x.x.m.b, .int .i64 x.x.m.c, .int .i64 x.x.m.r, .int .i64 x.x.m.y, .int .i64 x.x.m.a, .bool x.x.m.t, .slice x.x.pl x.x.m.ls.length x.x.cl, .slice x.x.pn x.x.m.ns.length x.x.cn] 42)))
      have Hx91 := Lib.hid (Blk.new wr #[.int .i64 x.tw, .int .i64 x.x.m.k, .int .i64 x.x.m.s, .int .i64 x.x.m.n, .int .i64 x.x.m.b, .int .i64 x.x.m.c, .int .i64 x.x.m.r, .int .i64 x.x.m.y, .int .i64 x.x.m.a, .bool x.x.m.t, .slice x.x.pl x.x.m.ls.length x.x.cl, .slice x.x.pn x.x.m.ns.length x.x.cn] 42)
      have HB91 := Lib.hid (HB90.out.alloc HB90.out.size (.cells #[.int .i64 x.tw, .int .i64 x.x.m.k, .int .i64 x.x.m.s, .int .i64 x.x.m.n, .int .i64 x.x.m.b, .int .i64 x.x.m.c, .int .i64 x.x.m.r, .int .i64 x.x.m.y, .int .i64 x.x.m.a, .bool x.x.m.t, .slice x.x.pl x.x.m.ls.length x.x.cl, .slice x.x.pn x.x.m.ns.length x.x.cn] 42))
      have HZ91 : Hid (B ≤ (wr.alloc (.cells #[.int .i64 x.tw, .int .i64 x.x.m.k, .int .i64 x.x.m.s, .int .i64 x.x.m.n, .int .i64 x.x.m.b, .int .i64 x.x.m.c, .int .i64 x.x.m.r, .int .i64 x.x.m.y, .int .i64 x.x.m.a, .bool x.x.m.t, .slice x.x.pl x.x.m.ls.length x.x.cl, .slice x.x.pn x.x.m.ns.length x.x.cn] 42)).heap.size) := Lib.hid (Nat.le_trans HZ90.out (oneB wr (.cells #[.int .i64 x.tw, .int .i64 x.x.m.k, .int .i64 x.x.m.s, .int .i64 x.x.m.n, .int .i64 x.x.m.b, .int .i64 x.x.m.c, .int .i64 x.x.m.r, .int .i64 x.x.m.y, .int .i64 x.x.m.a, .bool x.x.m.t, .slice x.x.pl x.x.m.ls.length x.x.cl, .slice x.x.pn x.x.m.ns.length x.x.cn] 42)).size)
      clear Hw90 Hd90 Kd90 HB90 HZ90
      go_upto_region 9 with fail
      clear c0 c1 c2 c3 c4 c5 c6 c7 c8 c9 c10 c11
      generalize (wr.alloc (.cells #[.int .i64 x.tw, .int .i64 x.x.m.k, .int .i64 x.x.m.s, .int .i64 x.x.m.n, .int .i64 x.x.m.b, .int .i64 x.x.m.c, .int .i64 x.x.m.r, .int .i64 x.x.m.y, .int .i64 x.x.m.a, .bool x.x.m.t, .slice x.x.pl x.x.m.ls.length x.x.cl, .slice x.x.pn x.x.m.ns.length x.x.cn] 42)) = wX at *
      generalize hggx : wr.heap.size = gx at *
      obtain ⟨d2, out, e, hR⟩ : ∃ d2 out e, doM d x.x.m x.tw = (d2, out, e) := ⟨_, _, _, rfl⟩
      have HL2 : Hid (d2.xs.length ≤ k + 1 ∧ d2.os.length ≤ k + 1) := by
        have h2 := do_len Kd91.out.row.sx Kd91.out.row.so x.x.m x.tw
        rw [hR] at h2
        dsimp only at h2
        have h3 := HL.out
        exact ⟨by omega, by omega⟩
      have c0 : wX.cell? ⟨gx, 0, none⟩ = some (.int .i64 x.tw) := Hx91.out.cell 0
      have c1 : wX.cell? ⟨gx, 1, none⟩ = some (.int .i64 x.x.m.k) := Hx91.out.cell 1
      have c2 : wX.cell? ⟨gx, 2, none⟩ = some (.int .i64 x.x.m.s) := Hx91.out.cell 2
      have c3 : wX.cell? ⟨gx, 3, none⟩ = some (.int .i64 x.x.m.n) := Hx91.out.cell 3
      have c4 : wX.cell? ⟨gx, 4, none⟩ = some (.int .i64 x.x.m.b) := Hx91.out.cell 4
      have c5 : wX.cell? ⟨gx, 5, none⟩ = some (.int .i64 x.x.m.c) := Hx91.out.cell 5
      have c6 : wX.cell? ⟨gx, 6, none⟩ = some (.int .i64 x.x.m.r) := Hx91.out.cell 6
      have c7 : wX.cell? ⟨gx, 7, none⟩ = some (.int .i64 x.x.m.y) := Hx91.out.cell 7
      have c8 : wX.cell? ⟨gx, 8, none⟩ = some (.int .i64 x.x.m.a) := Hx91.out.cell 8
      have c9 : wX.cell? ⟨gx, 9, none⟩ = some (.bool x.x.m.t) := Hx91.out.cell 9
      have c10 : wX.cell? ⟨gx, 10, none⟩ = some (.slice x.x.pl x.x.m.ls.length x.x.cl) := Hx91.out.cell 10
      have c11 : wX.cell? ⟨gx, 11, none⟩ = some (.slice x.x.pn x.x.m.ns.length x.x.cn) := Hx91.out.cell 11
      have HG := Lib.hid (Kd91.out.do_ (by have := HL.out; have := HK40.out; omega) (by have := HL.out; have := HK40.out; omega) x.x.m (.slice x.x.pl x.x.m.ls.length x.x.cl) (.slice x.x.pn x.x.m.ns.length x.x.cn) x.tw out e hR)
      unfold dcells Msg.v at HG
      clear hR
      have a0 : wX.cell? ⟨gd, 0, none⟩ = some (.int .i64 d.me) := Hd91.out.cell 0
      have a1 : wX.cell? ⟨gd, 1, none⟩ = some (.slice pi d.xs.length ci) := Hd91.out.cell 1
      have a2 : wX.cell? ⟨gd, 2, none⟩ = some (.slice po d.os.length co) := Hd91.out.cell 2
      have a3 : wX.cell? ⟨gd, 3, none⟩ = some (.int .i64 d.far) := Hd91.out.cell 3
      go_wp2_with fail
      clear a0 a1 a2 a3 c0 c1 c2 c3 c4 c5 c6 c7 c8 c9 c10 c11
      clear Hx91
      refine HG.out.mono ?_
      rintro y w1 ⟨hb, p1, c1, q1, e1, vs1, rfl, hk, hown⟩
      clear HG
      have hle : B ≤ wX.heap.size := HZ91.out
      have hk2 := hk.imp (Q := fun b => B ≤ b) (fun b hb => hb.elim id (fun h => Nat.le_trans hle h))
      have ho2 := hown.less hle
      clear hk hown hle
      have Hw92 := Lib.hid (Hw91.out.below hb Hw91.out.lt)
      have Hd92 := Lib.hid (Hd91.out.below hb Hd91.out.lt)
      have HB92 := Lib.hid (HB91.out.trans (hb.mono HB91.out.size))
      have HZ92 : Hid (B ≤ w1.heap.size) := Lib.hid (Nat.le_trans HZ91.out hb.size)
      clear Hw91 Hd91 HB91 HZ91
      have Kd92 := Lib.hid hk2
      clear hb hk2 ho2
      go_wp2_with (with_reducible refine stop_storeT 29 (.tmp 7) (.tmp 55) rfl ?_)
      have HTH : Hid (w1.there gd 0 4) := Hd92.out.thereAt
      have hch : Hid (Chg gd w1 (w1.setCells gd 0 (#[.int .i64 d2.me, .slice p1 d2.xs.length c1, .slice q1 d2.os.length e1, .int .i64 d2.far] : Array Value).toList)) := Lib.hid (chg_putL _ _ _ _ _ (Chg.refl _ w1))
      have Hd93 : Hid (Blk (w1.setCells gd 0 (#[.int .i64 d2.me, .slice p1 d2.xs.length c1, .slice q1 d2.os.length e1, .int .i64 d2.far] : Array Value).toList) gd #[.int .i64 d2.me, .slice p1 d2.xs.length c1, .slice q1 d2.os.length e1, .int .i64 d2.far] 29) := Lib.hid (blk_put_all Hd92.out _ rfl)
      have HB93 : Hid (Below w.heap.size w (w1.setCells gd 0 (#[.int .i64 d2.me, .slice p1 d2.xs.length c1, .slice q1 d2.os.length e1, .int .i64 d2.far] : Array Value).toList)) := Lib.hid (below_put (by have := NG.out; omega) _ _ _ _ HB92.out)
      have HZ93 : Hid (B ≤ (w1.setCells gd 0 (#[.int .i64 d2.me, .slice p1 d2.xs.length c1, .slice q1 d2.os.length e1, .int .i64 d2.far] : Array Value).toList).heap.size) := Lib.hid (Nat.le_trans HZ92.out hch.out.size)
      have Hw93 := Lib.hid (Hw92.out.chg hch.out (by have := NG.out; omega))
      have Kd93 := Lib.hid (Kd92.out.keepP (KeepP.of_chg hch.out (by have := NG.out; show ¬ _ ≤ _; omega)))
      clear hch Hw92 Hd92 Kd92 HB92 HZ92
      refine wpList_store_mid rfl 29 (.tmp 7) (.tmp 55) rfl gd 0 #[.int .i64 d2.me, .slice p1 d2.xs.length c1, .slice q1 d2.os.length e1, .int .i64 d2.far] rfl rfl HTH.out (infoD4 rfl) (all_oneCell_toArray (by intro u hu; simp at hu; rcases hu with rfl | rfl | rfl | rfl <;> rfl)) ?_
      generalize (w1.setCells gd 0 (#[.int .i64 d2.me, .slice p1 d2.xs.length c1, .slice q1 d2.os.length e1, .int .i64 d2.far] : Array Value).toList) = W1 at *
      clear HTH
      go_wp2_with fail
      go_roundw
      case rel => exact ⟨k + 1, d2, p1, c1, q1, e1, HK40.out.2, by go_num, HL2, Hd93, Kd93, Hw93, HB93, HZ93⟩
      case measure => have := HK40.out; simp [intOf]; omega
    · skip
      have hltI : ¬ (k : Int) < (n : Int) := by omega
      have HK40 : Hid (k ≤ 40) := by have := HN40.out; show _ ≤ _; omega
      go_upto_region 11 with fail
      obtain ⟨d1, out, f, hR⟩ : ∃ d2 out e, doM d y.x.m y.tw = (d2, out, e) := ⟨_, _, _, rfl⟩
      have hR2 : ∃ e2, e2 ≠ 0 ∧ (f ≠ 0 → e2 = f) ∧ doM d1 y.x.m y.tw = (d1, [], e2) := by
        by_cases hf : f = 0
        · subst hf
          obtain ⟨e2, h1, h2⟩ := twice HK2.out hR
          exact ⟨e2, h1, fun h => absurd rfl h, h2⟩
        · obtain ⟨h1, h2⟩ := refused HK2.out hR hf
          subst h1 h2
          exact ⟨f, hf, fun _ => rfl, hR⟩
      obtain ⟨e2, he2, he2f, hR2⟩ := hR2
      have HR2 := Lib.hid hR2
      have HE2 : Hid (e2 ≠ 0 ∧ (f ≠ 0 → e2 = f)) := ⟨he2, he2f⟩
      clear hR2 he2 he2f
      have HL2 : Hid (d1.xs.length ≤ k + 1 ∧ d1.os.length ≤ k + 1) := by
        have h2 := do_len Kd90.out.row.sx Kd90.out.row.so y.x.m y.tw
        rw [hR] at h2
        dsimp only at h2
        have h3 := HL.out
        exact ⟨by omega, by omega⟩
      have u0 : wr.cell? ⟨w.heap.size, 0, none⟩ = some (.int .i64 y.tw) := Hw90.out.cell 0
      have u1 : wr.cell? ⟨w.heap.size, 1, none⟩ = some (.int .i64 y.x.m.k) := Hw90.out.cell 1
      have u2 : wr.cell? ⟨w.heap.size, 2, none⟩ = some (.int .i64 y.x.m.s) := Hw90.out.cell 2
      have u3 : wr.cell? ⟨w.heap.size, 3, none⟩ = some (.int .i64 y.x.m.n) := Hw90.out.cell 3
      have u4 : wr.cell? ⟨w.heap.size, 4, none⟩ = some (.int .i64 y.x.m.b) := Hw90.out.cell 4
      have u5 : wr.cell? ⟨w.heap.size, 5, none⟩ = some (.int .i64 y.x.m.c) := Hw90.out.cell 5
      have u6 : wr.cell? ⟨w.heap.size, 6, none⟩ = some (.int .i64 y.x.m.r) := Hw90.out.cell 6
      have u7 : wr.cell? ⟨w.heap.size, 7, none⟩ = some (.int .i64 y.x.m.y) := Hw90.out.cell 7
      have u8 : wr.cell? ⟨w.heap.size, 8, none⟩ = some (.int .i64 y.x.m.a) := Hw90.out.cell 8
      have u9 : wr.cell? ⟨w.heap.size, 9, none⟩ = some (.bool y.x.m.t) := Hw90.out.cell 9
      have u10 : wr.cell? ⟨w.heap.size, 10, none⟩ = some (.slice y.x.pl y.x.m.ls.length y.x.cl) := Hw90.out.cell 10
      have u11 : wr.cell? ⟨w.heap.size, 11, none⟩ = some (.slice y.x.pn y.x.m.ns.length y.x.cn) := Hw90.out.cell 11
      have HG := Lib.hid (Kd90.out.do_ (by have := HL.out; have := HK40.out; omega) (by have := HL.out; have := HK40.out; omega) y.x.m (.slice y.x.pl y.x.m.ls.length y.x.cl) (.slice y.x.pn y.x.m.ns.length y.x.cn) y.tw out f hR)
      unfold dcells Msg.v at HG
      have a0 : wr.cell? ⟨gd, 0, none⟩ = some (.int .i64 d.me) := Hd90.out.cell 0
      have a1 : wr.cell? ⟨gd, 1, none⟩ = some (.slice pi d.xs.length ci) := Hd90.out.cell 1
      have a2 : wr.cell? ⟨gd, 2, none⟩ = some (.slice po d.os.length co) := Hd90.out.cell 2
      have a3 : wr.cell? ⟨gd, 3, none⟩ = some (.int .i64 d.far) := Hd90.out.cell 3
      go_wp2_with fail
      clear a0 a1 a2 a3 u0 u1 u2 u3 u4 u5 u6 u7 u8 u9 u10 u11
      refine HG.out.mono ?_
      rintro y7 w4 ⟨hb, p4, c4, q4, e4, vs4, rfl, hk2, hown⟩
      clear HG
      have hle : B ≤ wr.heap.size := HZ90.out
      have hk3 := hk2.imp (Q := fun b => B ≤ b) (fun b hb => hb.elim id (fun h => Nat.le_trans hle h))
      have hown2 := hown.less hle
      clear hk2 hown hle
      have Hw91 := Lib.hid (Hw90.out.below hb Hw90.out.lt)
      have Hd91 := Lib.hid (Hd90.out.below hb Hd90.out.lt)
      have Kd91 := Lib.hid (Kd90.out.kept hb)
      have HB91 := Lib.hid (HB90.out.trans (hb.mono HB90.out.size))
      have HZ91 : Hid (B ≤ w4.heap.size) := Lib.hid (Nat.le_trans HZ90.out hb.size)
      clear Hw90 Hd90 Kd90 HB90 HZ90
      have Km91 := Lib.hid hk3
      have Sm91 := Lib.hid hown2
      clear hb hk3 hown2
      have Hw92 := Lib.hid (Hw91.out.alloc (.cells #[.int .i64 d1.me, .slice p4 d1.xs.length c4, .slice q4 d1.os.length e4, .int .i64 d1.far] 29))
      have Hd92 := Lib.hid (Hd91.out.alloc (.cells #[.int .i64 d1.me, .slice p4 d1.xs.length c4, .slice q4 d1.os.length e4, .int .i64 d1.far] 29))
      have Kd92 := Lib.hid (Kd91.out.kept (oneB w4 (.cells #[.int .i64 d1.me, .slice p4 d1.xs.length c4, .slice q4 d1.os.length e4, .int .i64 d1.far] 29)))
      have Km92 := Lib.hid (Km91.out.kept (oneB w4 (.cells #[.int .i64 d1.me, .slice p4 d1.xs.length c4, .slice q4 d1.os.length e4, .int .i64 d1.far] 29)))
      have Sm92 := Lib.hid (Sm91.out.later (oneB w4 (.cells #[.int .i64 d1.me, .slice p4 d1.xs.length c4, .slice q4 d1.os.length e4, .int .i64 d1.far] 29)))
      have Hm92 := Lib.hid (Blk.new w4 #[.int .i64 d1.me, .slice p4 d1.xs.length c4, .slice q4 d1.os.length e4, .int .i64 d1.far] 29)
      have HB92 := Lib.hid (HB91.out.alloc HB91.out.size (.cells #[.int .i64 d1.me, .slice p4 d1.xs.length c4, .slice q4 d1.os.length e4, .int .i64 d1.far] 29))
      have HZ92 : Hid (B ≤ (w4.alloc (.cells #[.int .i64 d1.me, .slice p4 d1.xs.length c4, .slice q4 d1.os.length e4, .int .i64 d1.far] 29)).heap.size) := Lib.hid (Nat.le_trans HZ91.out (oneB w4 (.cells #[.int .i64 d1.me, .slice p4 d1.xs.length c4, .slice q4 d1.os.length e4, .int .i64 d1.far] 29)).size)
      clear Hw91 Hd91 Kd91 Km91 Sm91 HB91 HZ91
      go_upto_region 12 with fail
      generalize (w4.alloc (.cells #[.int .i64 d1.me, .slice p4 d1.xs.length c4, .slice q4 d1.os.length e4, .int .i64 d1.far] 29)) = W4 at *
      generalize hggm : w4.heap.size = gm at *
      have u0 : W4.cell? ⟨w.heap.size, 0, none⟩ = some (.int .i64 y.tw) := Hw92.out.cell 0
      have u1 : W4.cell? ⟨w.heap.size, 1, none⟩ = some (.int .i64 y.x.m.k) := Hw92.out.cell 1
      have u2 : W4.cell? ⟨w.heap.size, 2, none⟩ = some (.int .i64 y.x.m.s) := Hw92.out.cell 2
      have u3 : W4.cell? ⟨w.heap.size, 3, none⟩ = some (.int .i64 y.x.m.n) := Hw92.out.cell 3
      have u4 : W4.cell? ⟨w.heap.size, 4, none⟩ = some (.int .i64 y.x.m.b) := Hw92.out.cell 4
      have u5 : W4.cell? ⟨w.heap.size, 5, none⟩ = some (.int .i64 y.x.m.c) := Hw92.out.cell 5
      have u6 : W4.cell? ⟨w.heap.size, 6, none⟩ = some (.int .i64 y.x.m.r) := Hw92.out.cell 6
      have u7 : W4.cell? ⟨w.heap.size, 7, none⟩ = some (.int .i64 y.x.m.y) := Hw92.out.cell 7
      have u8 : W4.cell? ⟨w.heap.size, 8, none⟩ = some (.int .i64 y.x.m.a) := Hw92.out.cell 8
      have u9 : W4.cell? ⟨w.heap.size, 9, none⟩ = some (.bool y.x.m.t) := Hw92.out.cell 9
      have u10 : W4.cell? ⟨w.heap.size, 10, none⟩ = some (.slice y.x.pl y.x.m.ls.length y.x.cl) := Hw92.out.cell 10
      have u11 : W4.cell? ⟨w.heap.size, 11, none⟩ = some (.slice y.x.pn y.x.m.ns.length y.x.cn) := Hw92.out.cell 11
      have HG := Lib.hid (Km92.out.do_ (by have := HL2.out; have := HK40.out; omega) (by have := HL2.out; have := HK40.out; omega) y.x.m (.slice y.x.pl y.x.m.ls.length y.x.cl) (.slice y.x.pn y.x.m.ns.length y.x.cn) y.tw [] e2 HR2.out)
      unfold dcells Msg.v at HG
      have a0 : W4.cell? ⟨gm, 0, none⟩ = some (.int .i64 d1.me) := Hm92.out.cell 0
      have a1 : W4.cell? ⟨gm, 1, none⟩ = some (.slice p4 d1.xs.length c4) := Hm92.out.cell 1
      have a2 : W4.cell? ⟨gm, 2, none⟩ = some (.slice q4 d1.os.length e4) := Hm92.out.cell 2
      have a3 : W4.cell? ⟨gm, 3, none⟩ = some (.int .i64 d1.far) := Hm92.out.cell 3
      go_wp2_with fail
      clear a0 a1 a2 a3 u0 u1 u2 u3 u4 u5 u6 u7 u8 u9 u10 u11
      refine HG.out.mono ?_
      rintro y7 w5 ⟨hb, p5, c5, q5, e5, vs5, rfl, hk2, hown⟩
      clear HG
      have hle : B ≤ W4.heap.size := HZ92.out
      have hk3 := hk2.imp (Q := fun b => B ≤ b) (fun b hb => hb.elim id (fun h => Nat.le_trans hle h))
      have hown2 := hown.less hle
      clear hk2 hown hle
      have Hw93 := Lib.hid (Hw92.out.below hb Hw92.out.lt)
      have Hd93 := Lib.hid (Hd92.out.below hb Hd92.out.lt)
      have Hm93 := Lib.hid (Hm92.out.below hb Hm92.out.lt)
      have Kd93 := Lib.hid (Kd92.out.kept hb)
      have Km93 := Lib.hid (Km92.out.kept hb)
      have Sm93 := Lib.hid (Sm92.out.later hb)
      have HB93 := Lib.hid (HB92.out.trans (hb.mono HB92.out.size))
      have HZ93 : Hid (B ≤ w5.heap.size) := Lib.hid (Nat.le_trans HZ92.out hb.size)
      clear Hw92 Hd92 Hm92 Kd92 Km92 Sm92 HB92 HZ92
      have Kn93 := Lib.hid hk3
      have Sn93 := Lib.hid hown2
      clear hb hk3 hown2
      have Hw94 := Lib.hid (Hw93.out.alloc (.cells #[.int .i64 d1.me, .slice p5 d1.xs.length c5, .slice q5 d1.os.length e5, .int .i64 d1.far] 29))
      have Hd94 := Lib.hid (Hd93.out.alloc (.cells #[.int .i64 d1.me, .slice p5 d1.xs.length c5, .slice q5 d1.os.length e5, .int .i64 d1.far] 29))
      have Hm94 := Lib.hid (Hm93.out.alloc (.cells #[.int .i64 d1.me, .slice p5 d1.xs.length c5, .slice q5 d1.os.length e5, .int .i64 d1.far] 29))
      have Kd94 := Lib.hid (Kd93.out.kept (oneB w5 (.cells #[.int .i64 d1.me, .slice p5 d1.xs.length c5, .slice q5 d1.os.length e5, .int .i64 d1.far] 29)))
      have Km94 := Lib.hid (Km93.out.kept (oneB w5 (.cells #[.int .i64 d1.me, .slice p5 d1.xs.length c5, .slice q5 d1.os.length e5, .int .i64 d1.far] 29)))
      have Kn94 := Lib.hid (Kn93.out.kept (oneB w5 (.cells #[.int .i64 d1.me, .slice p5 d1.xs.length c5, .slice q5 d1.os.length e5, .int .i64 d1.far] 29)))
      have Sm94 := Lib.hid (Sm93.out.later (oneB w5 (.cells #[.int .i64 d1.me, .slice p5 d1.xs.length c5, .slice q5 d1.os.length e5, .int .i64 d1.far] 29)))
      have Sn94 := Lib.hid (Sn93.out.later (oneB w5 (.cells #[.int .i64 d1.me, .slice p5 d1.xs.length c5, .slice q5 d1.os.length e5, .int .i64 d1.far] 29)))
      have Hn94 := Lib.hid (Blk.new w5 #[.int .i64 d1.me, .slice p5 d1.xs.length c5, .slice q5 d1.os.length e5, .int .i64 d1.far] 29)
      have HB94 := Lib.hid (HB93.out.alloc HB93.out.size (.cells #[.int .i64 d1.me, .slice p5 d1.xs.length c5, .slice q5 d1.os.length e5, .int .i64 d1.far] 29))
      have HZ94 : Hid (B ≤ (w5.alloc (.cells #[.int .i64 d1.me, .slice p5 d1.xs.length c5, .slice q5 d1.os.length e5, .int .i64 d1.far] 29)).heap.size) := Lib.hid (Nat.le_trans HZ93.out (oneB w5 (.cells #[.int .i64 d1.me, .slice p5 d1.xs.length c5, .slice q5 d1.os.length e5, .int .i64 d1.far] 29)).size)
      clear Hw93 Hd93 Hm93 Kd93 Km93 Kn93 Sm93 Sn93 HB93 HZ93
      go_upto_region 13 with fail
      generalize (w5.alloc (.cells #[.int .i64 d1.me, .slice p5 d1.xs.length c5, .slice q5 d1.os.length e5, .int .i64 d1.far] 29)) = W5 at *
      generalize hggn : w5.heap.size = gn at *
      obtain ⟨pv, cv, hpv⟩ := own0 Sn94.out
      subst hpv
      have HBE := Lib.hid HB94.out
      by_cases hf : f = 0
      · have hfb : (f != 0) = false := by simpa using hf
        have HE3 : Hid (e2 ≠ 0) := HE2.out.1
        clear hf
        have a1 : W5.cell? ⟨gm, 1, none⟩ = some (.slice p4 d1.xs.length c4) := Hm94.out.cell 1
        have b1 : W5.cell? ⟨gn, 1, none⟩ = some (.slice p5 d1.xs.length c5) := Hn94.out.cell 1
        go_upto_region 17 with fail
        clear b1
        go_wp2_with fail
        clear a1 hfb
        go_loopw [102] (fun i wr => ∃ j : Nat, j ≤ d1.xs.length ∧ i = .int .i64 j ∧ Hid (Below W5.heap.size W5 wr)) (fun i _ => d1.xs.length - (intOf i).toNat)
        case atStart => exact ⟨0, by omega, rfl, Below.refl _ _⟩
        case round =>
          obtain ⟨j, hj, rfl, HW⟩ := hrel
          by_cases hlt2 : j < d1.xs.length
          · have hltI2 : (j : Int) < (d1.xs.length : Int) := by omega
            have HJ : Hid (j < d1.xs.length) := hlt2
            have hj41 : j + 1 ≤ 50 := by have := HL2.out; have := HK40.out; omega
            go_upto_region 20 with fail
            have hwr := HW.out
            have hbd := hwr.trans ((Below.refl wr.heap.size wr).drew.mono hwr.size)
            obtain ⟨bA, oA, rfl, hbA, hcA⟩ := (Km94.out.row.items.kept hbd).at_ j HJ.out
            obtain ⟨bB, oB, rfl, hbB, hcB⟩ := (Kn94.out.row.items.kept hbd).at_ j HJ.out
            generalize d1.xs[j] = x at *
            have hS1 : wr.drew.cell? ⟨gm, 1, none⟩ = some (.slice (some ⟨bA, oA, none⟩) d1.xs.length c4) := (Hm94.out.below hbd Hm94.out.lt).cell 1
            have hS2 : wr.drew.cell? ⟨gn, 1, none⟩ = some (.slice (some ⟨bB, oB, none⟩) d1.xs.length c5) := (Hn94.out.below hbd Hn94.out.lt).cell 1
            have hS : wr.drew.cell? ⟨gm, 1, none⟩ = some (.slice (some ⟨bA, oA, none⟩) d1.xs.length c4) ∧ wr.drew.cell? ⟨gn, 1, none⟩ = some (.slice (some ⟨bB, oB, none⟩) d1.xs.length c5) ∧ wr.drew.cell? ⟨bA, oA + j * 8, none⟩ = some (.int .i64 x.s) ∧ wr.drew.cell? ⟨bA, oA + j * 8 + 1, none⟩ = some (.int .i64 x.n) ∧ wr.drew.cell? ⟨bA, oA + j * 8 + 2, none⟩ = some (.int .i64 x.b) ∧ wr.drew.cell? ⟨bA, oA + j * 8 + 3, none⟩ = some (.int .i64 x.c) ∧ wr.drew.cell? ⟨bA, oA + j * 8 + 4, none⟩ = some (.int .i64 x.a) ∧ wr.drew.cell? ⟨bA, oA + j * 8 + 5, none⟩ = some (.int .i64 x.r) ∧ wr.drew.cell? ⟨bA, oA + j * 8 + 6, none⟩ = some (.int .i64 x.t) ∧ wr.drew.cell? ⟨bA, oA + j * 8 + 7, none⟩ = some (.int .i64 x.y) ∧ wr.drew.cell? ⟨bB, oB + j * 8, none⟩ = some (.int .i64 x.s) ∧ wr.drew.cell? ⟨bB, oB + j * 8 + 1, none⟩ = some (.int .i64 x.n) ∧ wr.drew.cell? ⟨bB, oB + j * 8 + 2, none⟩ = some (.int .i64 x.b) ∧ wr.drew.cell? ⟨bB, oB + j * 8 + 3, none⟩ = some (.int .i64 x.c) ∧ wr.drew.cell? ⟨bB, oB + j * 8 + 4, none⟩ = some (.int .i64 x.a) ∧ wr.drew.cell? ⟨bB, oB + j * 8 + 5, none⟩ = some (.int .i64 x.r) ∧ wr.drew.cell? ⟨bB, oB + j * 8 + 6, none⟩ = some (.int .i64 x.t) ∧ wr.drew.cell? ⟨bB, oB + j * 8 + 7, none⟩ = some (.int .i64 x.y) := ⟨hS1, hS2, hcA 0 (by decide), hcA 1 (by decide), hcA 2 (by decide), hcA 3 (by decide), hcA 4 (by decide), hcA 5 (by decide), hcA 6 (by decide), hcA 7 (by decide), hcB 0 (by decide), hcB 1 (by decide), hcB 2 (by decide), hcB 3 (by decide), hcB 4 (by decide), hcB 5 (by decide), hcB 6 (by decide), hcB 7 (by decide)⟩
            clear hS1 hS2 hcA hcB hbA hbB hwr hbd
            have keq := fun (w : World) => item_eq x x w
            rw [itmEq_iff.2 rfl] at keq
            refine wp_region_held_drew (S := fun w' => w'.cell? ⟨gm, 1, none⟩ = some (.slice (some ⟨bA, oA, none⟩) d1.xs.length c4) ∧ w'.cell? ⟨gn, 1, none⟩ = some (.slice (some ⟨bB, oB, none⟩) d1.xs.length c5) ∧ w'.cell? ⟨bA, oA + j * 8, none⟩ = some (.int .i64 x.s) ∧ w'.cell? ⟨bA, oA + j * 8 + 1, none⟩ = some (.int .i64 x.n) ∧ w'.cell? ⟨bA, oA + j * 8 + 2, none⟩ = some (.int .i64 x.b) ∧ w'.cell? ⟨bA, oA + j * 8 + 3, none⟩ = some (.int .i64 x.c) ∧ w'.cell? ⟨bA, oA + j * 8 + 4, none⟩ = some (.int .i64 x.a) ∧ w'.cell? ⟨bA, oA + j * 8 + 5, none⟩ = some (.int .i64 x.r) ∧ w'.cell? ⟨bA, oA + j * 8 + 6, none⟩ = some (.int .i64 x.t) ∧ w'.cell? ⟨bA, oA + j * 8 + 7, none⟩ = some (.int .i64 x.y) ∧ w'.cell? ⟨bB, oB + j * 8, none⟩ = some (.int .i64 x.s) ∧ w'.cell? ⟨bB, oB + j * 8 + 1, none⟩ = some (.int .i64 x.n) ∧ w'.cell? ⟨bB, oB + j * 8 + 2, none⟩ = some (.int .i64 x.b) ∧ w'.cell? ⟨bB, oB + j * 8 + 3, none⟩ = some (.int .i64 x.c) ∧ w'.cell? ⟨bB, oB + j * 8 + 4, none⟩ = some (.int .i64 x.a) ∧ w'.cell? ⟨bB, oB + j * 8 + 5, none⟩ = some (.int .i64 x.r) ∧ w'.cell? ⟨bB, oB + j * 8 + 6, none⟩ = some (.int .i64 x.t) ∧ w'.cell? ⟨bB, oB + j * 8 + 7, none⟩ = some (.int .i64 x.y)) (by kernel_rfl) hS (fun hS0 => ?_)
            refine wpAnyH_take (i := 0) (v := ?_) rfl (by kernel_rfl) (by kernel_rfl) (by kernel_rfl) (fun _ _ _ h => h) (Or.inl ⟨by kernel_rfl, ?_⟩) (by first | assumption | trivial) ?_
            rotate_left
            · intro w hSw
              try dsimp only at hSw
              first | (go_simp; done) | (go_simp; with_reducible rfl)
            try simp only [Act.put, List.getElem_toArray, List.getElem_cons_succ, List.getElem_cons_zero, List.setIfInBounds_toArray, List.set_cons_zero, List.set_cons_succ]
            refine wpAnyH_take (i := 1) (v := ?_) rfl (by kernel_rfl) (by kernel_rfl) (by kernel_rfl) (fun _ _ _ h => h) (Or.inl ⟨by kernel_rfl, ?_⟩) (by first | assumption | trivial) ?_
            rotate_left
            · intro w hSw
              try dsimp only at hSw
              first | (go_simp; done) | (go_simp; with_reducible rfl)
            try simp only [Act.put, List.getElem_toArray, List.getElem_cons_succ, List.getElem_cons_zero, List.setIfInBounds_toArray, List.set_cons_zero, List.set_cons_succ]
            refine wpAnyH_take (i := 2) (v := ?_) rfl (by kernel_rfl) (by kernel_rfl) (by kernel_rfl) (fun _ _ _ h => h) (Or.inl ⟨by kernel_rfl, ?_⟩) (by first | assumption | trivial) ?_
            rotate_left
            · intro w hSw
              try dsimp only at hSw
              first | (go_simp; done) | (go_simp; with_reducible rfl)
            try simp only [Act.put, List.getElem_toArray, List.getElem_cons_succ, List.getElem_cons_zero, List.setIfInBounds_toArray, List.set_cons_zero, List.set_cons_succ]
            refine wpAnyH_take (i := 3) (v := ?_) rfl (by kernel_rfl) (by kernel_rfl) (by kernel_rfl) (fun _ _ _ h => h) (Or.inl ⟨by kernel_rfl, ?_⟩) (by first | assumption | trivial) ?_
            rotate_left
            · intro w hSw
              try dsimp only at hSw
              first | (go_simp; done) | (go_simp; with_reducible rfl)
            try simp only [Act.put, List.getElem_toArray, List.getElem_cons_succ, List.getElem_cons_zero, List.setIfInBounds_toArray, List.set_cons_zero, List.set_cons_succ]
            refine wpAnyH_take (i := 4) (v := ?_) rfl (by kernel_rfl) (by kernel_rfl) (by kernel_rfl) (fun _ _ _ h => h) (Or.inl ⟨by kernel_rfl, ?_⟩) (by first | assumption | trivial) ?_
            rotate_left
            · intro w hSw
              try dsimp only at hSw
              first | (go_simp; done) | (go_simp; with_reducible rfl)
            try simp only [Act.put, List.getElem_toArray, List.getElem_cons_succ, List.getElem_cons_zero, List.setIfInBounds_toArray, List.set_cons_zero, List.set_cons_succ]
            refine wpAnyH_take (i := 5) (v := ?_) rfl (by kernel_rfl) (by kernel_rfl) (by kernel_rfl) (fun _ _ _ h => h) (Or.inl ⟨by kernel_rfl, ?_⟩) (by first | assumption | trivial) ?_
            rotate_left
            · intro w hSw
              try dsimp only at hSw
              first | (go_simp; done) | (go_simp; with_reducible rfl)
            try simp only [Act.put, List.getElem_toArray, List.getElem_cons_succ, List.getElem_cons_zero, List.setIfInBounds_toArray, List.set_cons_zero, List.set_cons_succ]
            refine wpAnyH_take (i := 6) (v := ?_) rfl (by kernel_rfl) (by kernel_rfl) (by kernel_rfl) (fun _ _ _ h => h) (Or.inl ⟨by kernel_rfl, ?_⟩) (by first | assumption | trivial) ?_
            rotate_left
            · intro w hSw
              try dsimp only at hSw
              first | (go_simp; done) | (go_simp; with_reducible rfl)
            try simp only [Act.put, List.getElem_toArray, List.getElem_cons_succ, List.getElem_cons_zero, List.setIfInBounds_toArray, List.set_cons_zero, List.set_cons_succ]
            refine wpAnyH_take (i := 7) (v := ?_) rfl (by kernel_rfl) (by kernel_rfl) (by kernel_rfl) (fun _ _ _ h => h) (Or.inl ⟨by kernel_rfl, ?_⟩) (by first | assumption | trivial) ?_
            rotate_left
            · intro w hSw
              try dsimp only at hSw
              first | (go_simp; done) | (go_simp; with_reducible rfl)
            try simp only [Act.put, List.getElem_toArray, List.getElem_cons_succ, List.getElem_cons_zero, List.setIfInBounds_toArray, List.set_cons_zero, List.set_cons_succ]
            refine wpAnyH_take (i := 8) (v := ?_) rfl (by kernel_rfl) (by kernel_rfl) (by kernel_rfl) (fun _ _ _ h => h) (Or.inl ⟨by kernel_rfl, ?_⟩) (by first | assumption | trivial) ?_
            rotate_left
            · intro w hSw
              try dsimp only at hSw
              first | (go_simp; done) | (go_simp; with_reducible rfl)
            try simp only [Act.put, List.getElem_toArray, List.getElem_cons_succ, List.getElem_cons_zero, List.setIfInBounds_toArray, List.set_cons_zero, List.set_cons_succ]
            refine wpAnyH_take (i := 9) (v := ?_) rfl (by kernel_rfl) (by kernel_rfl) (by kernel_rfl) (fun _ _ _ h => h) (Or.inl ⟨by kernel_rfl, ?_⟩) (by first | assumption | trivial) ?_
            rotate_left
            · intro w hSw
              try dsimp only at hSw
              first | (go_simp; done) | (go_simp; with_reducible rfl)
            try simp only [Act.put, List.getElem_toArray, List.getElem_cons_succ, List.getElem_cons_zero, List.setIfInBounds_toArray, List.set_cons_zero, List.set_cons_succ]
            refine wpAnyH_take (i := 10) (v := ?_) rfl (by kernel_rfl) (by kernel_rfl) (by kernel_rfl) (fun _ _ _ h => h) (Or.inl ⟨by kernel_rfl, ?_⟩) (by first | assumption | trivial) ?_
            rotate_left
            · intro w hSw
              try dsimp only at hSw
              first | (go_simp; done) | (go_simp; with_reducible rfl)
            try simp only [Act.put, List.getElem_toArray, List.getElem_cons_succ, List.getElem_cons_zero, List.setIfInBounds_toArray, List.set_cons_zero, List.set_cons_succ]
            refine wpAnyH_take (i := 11) (v := ?_) rfl (by kernel_rfl) (by kernel_rfl) (by kernel_rfl) (fun _ _ _ h => h) (Or.inl ⟨by kernel_rfl, ?_⟩) (by first | assumption | trivial) ?_
            rotate_left
            · intro w hSw
              try dsimp only at hSw
              first | (go_simp; done) | (go_simp; with_reducible rfl)
            try simp only [Act.put, List.getElem_toArray, List.getElem_cons_succ, List.getElem_cons_zero, List.setIfInBounds_toArray, List.set_cons_zero, List.set_cons_succ]
            refine wpAnyH_take (i := 12) (v := ?_) rfl (by kernel_rfl) (by kernel_rfl) (by kernel_rfl) (fun _ _ _ h => h) (Or.inl ⟨by kernel_rfl, ?_⟩) (by first | assumption | trivial) ?_
            rotate_left
            · intro w hSw
              try dsimp only at hSw
              first | (go_simp; done) | (go_simp; with_reducible rfl)
            try simp only [Act.put, List.getElem_toArray, List.getElem_cons_succ, List.getElem_cons_zero, List.setIfInBounds_toArray, List.set_cons_zero, List.set_cons_succ]
            refine wpAnyH_done (by kernel_rfl) ?_ _
            clear hS hS0 keq
            have HWd := Lib.hid (HW.out.trans ((Below.refl wr.heap.size wr).drew.mono HW.out.size))
            go_wp2_with fail
            go_roundw
            case rel => exact ⟨j + 1, by have := HJ.out; omega, by go_num, HWd⟩
            case measure => have := HJ.out; simp [intOf]; omega
          · have hltI2 : ¬ (j : Int) < (d1.xs.length : Int) := by omega
            have hE3 : (e2 != 0) = true := by simpa using HE3.out
            have HBW := Lib.hid (HBE.out.trans (HW.out.mono HBE.out.size))
            go_wp2_with fail
            go_ret
            exact ⟨rfl, HBW.out⟩
      · have hfb : (f != 0) = true := by simpa using hf
        have he := HE2.out.2 hf
        subst he
        clear hf
        go_wp2_with fail
        go_ret
        exact ⟨rfl, HBE.out⟩
end Go.Proofs.Ytmfodfimglllkaa
