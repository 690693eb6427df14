/- A law's clock: its calls by contract, where the law's own blocks (L) stay. -/
import Derived.Test.YtpmiekheiddihaaClkTick
namespace Go.Proofs.Ytpmiekheiddihaa
open Go.RowKit Go.Maps
/-- A law's clock: its blocks are new since w, and none of the law's own. -/
structure LC (w : World) (L : List Nat) (W : World) (gc : Nat) (now : Int) (k : Nat) (ds : List Du) : Prop where
  ck : Ck (fun b => w.heap.size ≤ b ∧ b ∉ L) W gc now k ds
  below : Below w.heap.size w W
  lt : ∀ x ∈ L, x < W.heap.size
  tm : ∀ d ∈ ds, now < d.t
  nw : 0 ≤ now ∧ now ≤ 1099511627776
  ln : ds.length ≤ 4096
/-- The law's own blocks have stayed. -/
def Stay (L : List Nat) (W W' : World) : Prop := ∀ x ∈ L, W'.heap[x]? = W.heap[x]?
theorem LC.kept {w W W' : World} {L : List Nat} {gc : Nat} {now : Int} {k : Nat} {ds : List Du} (h : LC w L W gc now k ds) (hb : Below W.heap.size W W') : LC w L W' gc now k ds :=
  ⟨h.ck.kept hb, h.below.trans (hb.mono h.below.size), fun x hx => Nat.lt_of_lt_of_le (h.lt x hx) hb.size, h.tm, h.nw, h.ln⟩
theorem LC.stay {w W W' : World} {L : List Nat} {gc : Nat} {now : Int} {k : Nat} {ds : List Du} (h : LC w L W gc now k ds) (hb : Below w.heap.size W W') (hk : ∀ b, b < W.heap.size → b ∉ L → w.heap.size ≤ b → W'.heap[b]? = W.heap[b]?) : LC w L W' gc now k ds :=
  ⟨h.ck.stay (fun b hb' hp => hk b hb' hp.2 hp.1), h.below.trans hb, fun x hx => Nat.lt_of_lt_of_le (h.lt x hx) hb.size, h.tm, h.nw, h.ln⟩
theorem LC.more {w W : World} {L L' : List Nat} {gc : Nat} {now : Int} {k : Nat} {ds : List Du} (h : LC w L W gc now k ds) (hl : ∀ x ∈ L', x < W.heap.size) (hm : ∀ b, b < W.heap.size → w.heap.size ≤ b → b ∉ L → b ∉ L') : LC w L' W gc now k ds :=
  ⟨h.ck.mono (fun b hb hp => ⟨hp.1, hm b hb hp.1 hp.2⟩), h.below, hl, h.tm, h.nw, h.ln⟩
/-- Whatever is above all that the clock has may be the law's. -/
theorem LC.own {w W W' : World} {L : List Nat} {gc : Nat} {now : Int} {k : Nat} {ds : List Du} (h : LC w L W gc now k ds) (hb : Below W.heap.size W W') (x : Nat) (hx : W.heap.size ≤ x) (hx2 : x < W'.heap.size) : LC w (x :: L) W' gc now k ds :=
  ⟨(h.ck.mono (Q := fun b => w.heap.size ≤ b ∧ b ∉ x :: L) (fun b hb' hp => ⟨hp.1, fun e => (List.mem_cons.1 e).elim (fun h1 => by omega) hp.2⟩)).kept hb, h.below.trans (hb.mono h.below.size), fun y hy => (List.mem_cons.1 hy).elim (fun h1 => by omega) (fun h1 => Nat.lt_of_lt_of_le (h.lt y h1) hb.size), h.tm, h.nw, h.ln⟩
theorem chg_law {w W W' : World} {L : List Nat} (h : ChgP (fun b => w.heap.size ≤ b ∧ b ∉ L) W W') (hb : Below w.heap.size w W) (hl : ∀ x ∈ L, x < W.heap.size) : Below w.heap.size W W' ∧ Stay L W W' :=
  ⟨h.below (fun _ hp => hp.1) hb.size, fun x hx => h.2 x (hl x hx) (fun hp => hp.2 hx)⟩
theorem lnew_any (w W : World) (hb : Below w.heap.size w W) : Calls Try.prog 9 #[] W fun e w' => e = .returned (.pointer (some ⟨W.heap.size + 1, 0, none⟩)) ∧ LC w [] w' (W.heap.size + 1) 0 0 [] ∧ Below W.heap.size W w' :=
  (cnew_any (fun b => w.heap.size ≤ b ∧ b ∉ []) W (fun x hx => ⟨Nat.le_trans hb.size hx, by simp⟩)).mono fun e w' ⟨h1, h2, h3⟩ => ⟨h1, ⟨h2, hb.trans (h3.mono hb.size), (fun x hx => by cases hx), (fun d hd => by cases hd), ⟨Int.le_refl _, by decide⟩, Nat.zero_le _⟩, h3⟩
theorem set_pos {now : Int} {ds : List Du} {s : ByteArray} {later : Int} (h : setE now ds s later = 0) : 1 ≤ later ∧ later ≤ 1099511627776 - now ∧ (dofU ds s = none → ds.length < 4096) := by
  unfold setE at h
  by_cases h1 : later < 1 ∨ 1099511627776 - now < later
  · rw [if_pos h1] at h; cases h
  · rw [if_neg h1] at h
    refine ⟨by omega, by omega, fun h2 => ?_⟩
    by_cases h3 : 4096 ≤ ds.length
    · rw [if_pos ⟨h2, h3⟩] at h; cases h
    · omega
theorem set_len {now : Int} {ds : List Du} {s : ByteArray} {later : Int} (hn : NamesU ds) (hl : ds.length ≤ 4096) (h : setE now ds s later = 0) (d : Du) : (dropU ds s ++ [d]).length ≤ 4096 := by
  rw [List.length_append, List.length_singleton]
  cases hf : dofU ds s with
  | none =>
    rw [drop_self hf]
    have := (set_pos h).2.2 hf
    omega
  | some b =>
    obtain ⟨e, he, rfl, _⟩ := dof_some hf
    have := drop_len hn he
    omega
theorem lset_any (w : World) (L : List Nat) (W : World) (gc : Nat) (now : Int) (k : Nat) (ds : List Du) (s : ByteArray) (later : Int) (h : LC w L W gc now k ds) (hl : -9223372036854775808 ≤ later ∧ later ≤ 9223372036854775807) (hs : s.size ≤ 281474976710656) (hk : k ≤ 1000000) :
    Calls Try.prog 11 #[.pointer (some ⟨gc, 0, none⟩), .string s, .int .i64 later] W fun e w' => e = .returned (.int .i64 (setE now ds s later)) ∧ Below w.heap.size W w' ∧ Stay L W w' ∧ ∃ k' ds', LC w L w' gc now k' ds' ∧ SetR now k ds s later k' ds' :=
  (cset_any _ W gc now k ds s later h.ck h.nw hl hs (by have := h.ln; omega) hk (fun x hx => ⟨Nat.le_trans h.below.size hx, fun e => Nat.lt_irrefl _ (Nat.lt_of_lt_of_le (h.lt x e) hx)⟩)).mono fun e w' ⟨h1, k', ds', h2, h3, h4⟩ => by
    have hc := chg_law h4 h.below h.lt
    refine ⟨h1, hc.1, hc.2, k', ds', ⟨h2, h.below.trans hc.1, fun x hx => Nat.lt_of_lt_of_le (h.lt x hx) hc.1.size, ?_, h.nw, ?_⟩, h3⟩
    · by_cases he : setE now ds s later = 0
      · obtain ⟨rfl, b, rfl⟩ := h3.1 he
        intro d hd
        rcases List.mem_append.1 hd with h5 | h5
        · exact h.tm d (List.mem_filter.1 h5).1
        · rw [List.mem_singleton.1 h5]
          have := (set_pos he).1
          show now < now + later
          omega
      · obtain ⟨rfl, rfl⟩ := h3.2 he
        exact h.tm
    · by_cases he : setE now ds s later = 0
      · obtain ⟨rfl, b, rfl⟩ := h3.1 he
        exact set_len h.ck.nd h.ln he _
      · obtain ⟨rfl, rfl⟩ := h3.2 he
        exact h.ln
theorem ldrop_any (w : World) (L : List Nat) (W : World) (gc : Nat) (now : Int) (k : Nat) (ds : List Du) (s : ByteArray) (h : LC w L W gc now k ds) (hs : s.size ≤ maxLen) :
    Calls Try.prog 13 #[.pointer (some ⟨gc, 0, none⟩), .string s] W fun e w' => e = .returned (.int .i64 (dropE ds s)) ∧ Below w.heap.size W w' ∧ Stay L W w' ∧ LC w L w' gc now k (dropU ds s) :=
  (cdrop_any _ W gc now k ds s h.ck hs (by have := h.ln; omega)).mono fun e w' ⟨h1, h2, h4⟩ => by
    have hc := chg_law h4 h.below h.lt
    exact ⟨h1, hc.1, hc.2, h2, h.below.trans hc.1, fun x hx => Nat.lt_of_lt_of_le (h.lt x hx) hc.1.size, fun d hd => h.tm d (List.mem_filter.1 hd).1, h.nw, Nat.le_trans (List.length_filter_le _ _) h.ln⟩
theorem tick_tm {now : Int} {ds : List Du} (h : ∀ d ∈ ds, now < d.t) : ∀ d ∈ tickD now ds, tickN now < d.t := by
  intro d hd
  unfold tickD at hd
  unfold tickN
  by_cases h1 : now = 1099511627776
  · rw [if_pos h1] at hd ⊢; exact h d hd
  · rw [if_neg h1] at hd ⊢
    have h2 := (List.mem_filter.1 hd).2
    unfold dueB at h2
    simp at h2
    exact h2
theorem ltick_any (w : World) (L : List Nat) (W : World) (gc : Nat) (now : Int) (k : Nat) (ds : List Du) (h : LC w L W gc now k ds) :
    Calls Try.prog 15 #[.pointer (some ⟨gc, 0, none⟩)] W fun e w' => ∃ v, e = .returned v ∧ OwnT encT w' W.heap.size 9 v (tickL now ds) ∧ Below w.heap.size W w' ∧ Stay L W w' ∧ (∀ L', (∀ x ∈ L', x < w'.heap.size) → (∀ b, b ∉ L → v.ownBlock ≠ some b → b ∉ L') → LC w L' w' gc (tickN now) k (tickD now ds)) :=
  (ctick_any _ W gc now k ds h.ck h.tm h.nw (by have := h.ln; omega)).mono fun e w' ⟨v, h1, h2, h3, h4⟩ => by
    have hc := chg_law h4 h.below h.lt
    refine ⟨v, h1, h2, hc.1, hc.2, fun L' hl hm => ⟨h3.mono (fun b _ hp => ⟨hp.1.1, hm b hp.1.2 hp.2⟩), h.below.trans hc.1, hl, tick_tm h.tm, ?_, ?_⟩⟩
    · have := h.nw
      unfold tickN
      split <;> omega
    · unfold tickD
      split
      · exact h.ln
      · exact Nat.le_trans (List.length_filter_le _ _) h.ln
/-- .. where what is told is not needed later than at once. -/
theorem LC.len_any {w : World} {L : List Nat} {W : World} {gc : Nat} {now : Int} {k : Nat} {ds : List Du} (h : LC w L W gc now k ds) : Calls Try.prog 19 #[.pointer (some ⟨gc, 0, none⟩)] W fun e w' => e = .returned (.int .i64 ds.length) ∧ w' = W := clen_any _ W gc now k ds h.ck
theorem LC.now_any {w : World} {L : List Nat} {W : World} {gc : Nat} {now : Int} {k : Nat} {ds : List Du} (h : LC w L W gc now k ds) : Calls Try.prog 18 #[.pointer (some ⟨gc, 0, none⟩)] W fun e w' => e = .returned (.int .i64 now) ∧ w' = W := cnow_any _ W gc now k ds h.ck
end Go.Proofs.Ytpmiekheiddihaa
