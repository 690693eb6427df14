/- A clock's small methods by contract. -/
import Derived.Test.YtpmiekheiddihaaClkC
import Derived.Test.YtpmiekheiddihaaShelf
namespace Go.Proofs.Ytpmiekheiddihaa
open Go.RowKit Go.Maps
theorem Clk.due {P : Nat → Prop} {w : World} {gc gm : Nat} {now : Int} {k : Nat} {p : Option Addr} {c : Nat} {hs ds : List Du} (h : Clk P w gc gm now k p c hs ds) {d : Du} (hd : d ∈ ds) : ∃ i, ∃ hi : i < hs.length, hs[i] = d ∧ Blk w d.b (d.cells i) 65 := by
  obtain ⟨i, hi, rfl⟩ := List.mem_iff_getElem.1 (h.pm.mem_iff.2 hd)
  exact ⟨i, hi, rfl, h.cl.hp.at_ i hi⟩
theorem MpN.kept {b n : Nat} {d : ByteArray → Option Nat} {w w' : World} (h : MpN b n d w) (hb : Below w.heap.size w w') : MpN b n d w' := h.block (hb.block b h.lt)
theorem MpN.chg {b n : Nat} {d : ByteArray → Option Nat} {w w' : World} {g : Nat} (h : MpN b n d w) (hc : Chg g w w') (hg : b ≠ g) : MpN b n d w' := h.block (hc.2 b h.lt hg)
set_option linter.unusedSimpArgs false in
set_option maxHeartbeats 4000000 in
set_option maxRecDepth 100000 in
theorem sclone_any (s : ByteArray) (w : World) (hs : s.size ≤ 281474976710656) : Calls Try.prog 24 #[.string s] w fun e w' => e = .returned (.string s) ∧ Below w.heap.size w w' := by
  have HS := Lib.hid (Try.stringslite_Clone s w hs)
  clear hs
  go_enter Try.func24, Try.ntmps24
  go_wp2_with fail
  refine HS.out.mono ?_
  rintro y w1 ⟨rfl, hb⟩
  go_wp2_with fail
  go_ret
  exact ⟨rfl, hb⟩
theorem cnow_any (P : Nat → Prop) (w : World) (gc : Nat) (now : Int) (k : Nat) (ds : List Du) (h : Ck P w gc now k ds) : Calls Try.prog 18 #[.pointer (some ⟨gc, 0, none⟩)] w fun e w' => e = .returned (.int .i64 now) ∧ w' = w := by
  obtain ⟨gm, p, c, hs, h⟩ := h
  have k0 : w.cell? ⟨gc, 0, none⟩ = some (.int .i64 now) := h.cl.blk.cell 0
  clear h
  go_enter Try.func18, Try.ntmps18
  go_wp2
  go_ret
  exact ⟨rfl, rfl⟩
theorem clen_any (P : Nat → Prop) (w : World) (gc : Nat) (now : Int) (k : Nat) (ds : List Du) (h : Ck P w gc now k ds) : Calls Try.prog 19 #[.pointer (some ⟨gc, 0, none⟩)] w fun e w' => e = .returned (.int .i64 ds.length) ∧ w' = w := by
  obtain ⟨gm, p, c, hs, h⟩ := h
  have k2 : w.cell? ⟨gc, 2, none⟩ = some (.slice p ds.length c) := h.cl.blk.cell 2
  clear h
  generalize ds.length = n at *
  go_enter Try.func19, Try.ntmps19
  go_wp2
  go_ret
  exact ⟨rfl, rfl⟩
/-- When a name is due. -/
def whenU (ds : List Du) (s : ByteArray) : Option Int := (ds.find? (fun d => decide (d.nm = s))).map (·.t)
set_option linter.unusedSimpArgs false in
set_option maxHeartbeats 4000000 in
set_option maxRecDepth 100000 in
theorem cwhen_any (P : Nat → Prop) (w : World) (gc : Nat) (now : Int) (k : Nat) (ds : List Du) (s : ByteArray) (h : Ck P w gc now k ds) (hs : s.size ≤ maxLen) : Calls Try.prog 16 #[.pointer (some ⟨gc, 0, none⟩), .string s] w fun e w' => e = .returned (.tuple #[.int .i64 ((whenU ds s).getD 0), .bool (whenU ds s).isSome]) ∧ w' = w := by
  obtain ⟨gm, p, c, hs', h⟩ := h
  have k3 : w.cell? ⟨gc, 3, none⟩ = some (.map (some gm)) := h.cl.blk.cell 3
  have hl := h.mp.look hs
  cases hf : ds.find? (fun d => decide (d.nm = s)) with
  | none =>
    have e1 : dofU ds s = none := by unfold dofU; rw [hf]; rfl
    have e2 : whenU ds s = none := by unfold whenU; rw [hf]; rfl
    rw [e1] at hl
    rw [e2]
    unfold ptrU at hl
    clear h hf e1 e2 hs
    go_enter Try.func16, Try.ntmps16
    go_wp2
    go_ret2
    exact ⟨rfl, rfl⟩
  | some d =>
    have e1 : dofU ds s = some d.b := by unfold dofU; rw [hf]; rfl
    have e2 : whenU ds s = some d.t := by unfold whenU; rw [hf]; rfl
    obtain ⟨i, _, _, hb⟩ := h.due (List.mem_of_find?_eq_some hf)
    have k1 : w.cell? ⟨d.b, 1, none⟩ = some (.int .i64 d.t) := hb.cell 1
    rw [e1] at hl
    rw [e2]
    unfold ptrU at hl
    clear h hf e1 e2 hs hb
    go_enter Try.func16, Try.ntmps16
    go_wp2
    go_ret2
    exact ⟨rfl, rfl⟩
set_option linter.unusedSimpArgs false in
set_option maxHeartbeats 4000000 in
set_option maxRecDepth 100000 in
theorem cnew_any (P : Nat → Prop) (w : World) (hP : ∀ x, w.heap.size ≤ x → P x) : Calls Try.prog 9 #[] w fun e w' => e = .returned (.pointer (some ⟨w.heap.size + 1, 0, none⟩)) ∧ Ck P w' (w.heap.size + 1) 0 0 [] ∧ Below w.heap.size w w' := by
  have hmm := @run_makeMap Try.prog
  go_enter Try.func9, Try.ntmps9
  go_wp2
  go_ret
  have hb : Below w.heap.size w ((w.alloc (.map #[] 0)).alloc (.cells #[.int .i64 0, .int .i64 0, .slice none 0 0, .map (some w.heap.size)] 59)) := (oneB w _).alloc (by simp) _
  have h1 : Blk ((w.alloc (.map #[] 0)).alloc (.cells #[.int .i64 0, .int .i64 0, .slice none 0 0, .map (some w.heap.size)] 59)) (w.heap.size + 1) #[.int .i64 0, .int .i64 0, .slice none 0 0, .map (some w.heap.size)] 59 := Blk.new' _ _ _ (by simp)
  refine ⟨rfl, ⟨w.heap.size, none, 0, [], ⟨⟨OwnT.nil_ _ _ _ _, rfl, (fun i hi => by cases hi), (fun s hs => by cases hs), (fun d hd => by cases hd), (fun d hd => by cases hd), List.Pairwise.nil⟩, h1, fun hq => hq.2.1 rfl⟩, (fun k h0 hk => absurd hk (Nat.not_lt_zero _)), List.Perm.refl _, ?_, hP _ (Nat.le_succ _), hP _ (Nat.le_refl _), Nat.ne_of_lt (Nat.lt_succ_self _), List.Pairwise.nil, (fun d hd => by cases hd), List.Pairwise.nil, (fun d hd => by cases hd)⟩, hb⟩
  exact (MpN.made w).kept (oneB _ _)
end Go.Proofs.Ytpmiekheiddihaa
