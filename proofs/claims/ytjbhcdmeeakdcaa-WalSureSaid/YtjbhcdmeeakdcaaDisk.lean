/- A disk in memory; its small methods by contract. -/
import Derived.Test.YtjbhcdmeeakdcaaDiskPure
import Derived.Test.YtjbhcdmeeakdcaaAppG
import Derived.Test.YtjbhcdmeeakdcaaElt
import Derived.IntWalk
import Derived.Deep.RegionWith
import Derived.Deep.RegionHeld3
namespace Go.Proofs.Ytjbhcdmeeakdcaa
open Go.RowKit
def cellsD (d : DSt) (vs vr : Value) : Array Value := #[.int .i64 d.room, vs, vr, .bool d.nw, .bool d.dn, .int .i64 d.left]
/-- Block g is a disk; what is sure and the rest lie in blocks of their own. -/
def Dk (w : World) (base g : Nat) (d : DSt) : Prop :=
  ∃ vs vr, Blk w g (cellsD d vs vr) 65 ∧ Own .u8 w base 5 vs d.S ∧ Own .u8 w base 5 vr d.R ∧ vs.ownBlock ≠ some g ∧ vr.ownBlock ≠ some g ∧ (∀ b, vs.ownBlock = some b → vr.ownBlock ≠ some b) ∧ base ≤ g ∧ d.Ok
theorem Dk.later {w w' : World} {base g : Nat} {d : DSt} (h : Dk w base g d) (hb : Below w.heap.size w w') : Dk w' base g d := by
  obtain ⟨vs, vr, h1, h2, h3, h4⟩ := h
  exact ⟨vs, vr, h1.below hb h1.lt, h2.later hb, h3.later hb, h4⟩
theorem Dk.drew {w : World} {base g : Nat} {d : DSt} (h : Dk w base g d) : Dk w.drew base g d := h
theorem Dk.lt {w : World} {base g : Nat} {d : DSt} (h : Dk w base g d) : g < w.heap.size := by
  obtain ⟨vs, vr, h1, _⟩ := h
  exact h1.lt
/-- Blocks that are somebody else's: the disk lies in none of them. -/
def PFar (P : Nat → Prop) (w : World) (g : Nat) (vs vr : Value) : Prop := ¬ P g ∧ (∀ b, vs.ownBlock = some b → ¬ P b) ∧ (∀ b, vr.ownBlock = some b → ¬ P b) ∧ ∀ b, P b → b < w.heap.size
/-- The same, and no block of P is the disk's. -/
def Dkp (P : Nat → Prop) (w : World) (base g : Nat) (d : DSt) : Prop :=
  ∃ vs vr, Blk w g (cellsD d vs vr) 65 ∧ Own .u8 w base 5 vs d.S ∧ Own .u8 w base 5 vr d.R ∧ vs.ownBlock ≠ some g ∧ vr.ownBlock ≠ some g ∧ (∀ b, vs.ownBlock = some b → vr.ownBlock ≠ some b) ∧ base ≤ g ∧ d.Ok ∧ PFar P w g vs vr
theorem Dkp.dk {P : Nat → Prop} {w : World} {base g : Nat} {d : DSt} (h : Dkp P w base g d) : Dk w base g d := by
  obtain ⟨vs, vr, h1, h2, h3, h4, h5, h6, h7, h8, _⟩ := h
  exact ⟨vs, vr, h1, h2, h3, h4, h5, h6, h7, h8⟩
def none_ : Nat → Prop := fun _ => False
theorem Dk.dkp {w : World} {base g : Nat} {d : DSt} (h : Dk w base g d) : Dkp none_ w base g d := by
  obtain ⟨vs, vr, h1, h2, h3, h4, h5, h6, h7, h8⟩ := h
  exact ⟨vs, vr, h1, h2, h3, h4, h5, h6, h7, h8, id, (fun _ _ h => h), (fun _ _ h => h), (fun _ h => h.elim)⟩
theorem Dk.far {P : Nat → Prop} {w : World} {base g : Nat} {d : DSt} (h : Dk w base g d) (hP : ∀ b, P b → b < base) : Dkp P w base g d := by
  obtain ⟨vs, vr, h1, h2, h3, h4, h5, h6, h7, h8⟩ := h
  refine ⟨vs, vr, h1, h2, h3, h4, h5, h6, h7, h8, ?_, ?_, ?_, ?_⟩
  · intro hp; have := hP _ hp; omega
  · intro b e hp; have := hP _ hp; have := h2.block_ge b e; omega
  · intro b e hp; have := hP _ hp; have := h3.block_ge b e; omega
  · intro b hp; have := hP _ hp; have := h1.lt; omega
/-- Whatever else was laid since is somebody else's, too. -/
theorem Dkp.later {P Q : Nat → Prop} {w w' : World} {base g : Nat} {d : DSt} (h : Dkp P w base g d) (hb : Below w.heap.size w w') (hQ : ∀ b, Q b → P b ∨ w.heap.size ≤ b) (hQ2 : ∀ b, Q b → b < w'.heap.size) : Dkp Q w' base g d := by
  obtain ⟨vs, vr, h1, h2, h3, h4, h5, h6, h7, h8, p1, p2, p3, p4⟩ := h
  refine ⟨vs, vr, h1.below hb h1.lt, h2.later hb, h3.later hb, h4, h5, h6, h7, h8, ?_, ?_, ?_, hQ2⟩
  · intro hq; rcases hQ _ hq with h | h
    · exact p1 h
    · have := h1.lt; omega
  · intro b e hq; rcases hQ _ hq with h | h
    · exact p2 b e h
    · have := h2.lt b e; omega
  · intro b e hq; rcases hQ _ hq with h | h
    · exact p3 b e h
    · have := h3.lt b e; omega
theorem PFar.mono {P : Nat → Prop} {w w' : World} {g : Nat} {vs vr : Value} (h : PFar P w g vs vr) (hs : w.heap.size ≤ w'.heap.size) : PFar P w' g vs vr := ⟨h.1, h.2.1, h.2.2.1, fun b hb => Nat.lt_of_lt_of_le (h.2.2.2 b hb) hs⟩
theorem Dkp.kept {P : Nat → Prop} {w w' : World} {base g : Nat} {d : DSt} (h : Dkp P w base g d) (hb : Below w.heap.size w w') : Dkp P w' base g d := by
  obtain ⟨vs, vr, h1, h2, h3, h4, h5, h6, h7, h8, h9⟩ := h
  exact ⟨vs, vr, h1.below hb h1.lt, h2.later hb, h3.later hb, h4, h5, h6, h7, h8, h9.mono hb.size⟩
/-- Below a number, and in the blocks of P, all is as it was. -/
def BelowP (P : Nat → Prop) (B : Nat) (w w' : World) : Prop := Below B w w' ∧ ∀ b, P b → b < w.heap.size → w'.heap[b]? = w.heap[b]?
theorem BelowP.refl (P : Nat → Prop) (B : Nat) (w : World) : BelowP P B w w := ⟨Below.refl _ _, fun _ _ _ => rfl⟩
theorem BelowP.trans {P : Nat → Prop} {B : Nat} {a b c : World} (h : BelowP P B a b) (k : BelowP P B b c) : BelowP P B a c :=
  ⟨h.1.trans k.1, fun x hx hl => (k.2 x hx (Nat.lt_of_lt_of_le hl h.1.size)).trans (h.2 x hx hl)⟩
theorem BelowP.drew {P : Nat → Prop} {B : Nat} {a w : World} (h : BelowP P B a w) : BelowP P B a w.drew := ⟨h.1.drew, h.2⟩
theorem BelowP.of {P : Nat → Prop} {B : Nat} {w w' : World} (h : Below w.heap.size w w') (hB : B ≤ w.heap.size) : BelowP P B w w' := ⟨h.mono hB, fun b _ hl => h.block b hl⟩
theorem BelowP.of0 {B : Nat} {w w' : World} (h : Below B w w') : BelowP none_ B w w' := ⟨h, fun _ hP => hP.elim⟩
theorem BelowP.chg {P : Nat → Prop} {B g : Nat} {w w' : World} (h : Chg g w w') (hg : B ≤ g) (hB : B ≤ w.heap.size) (hP : ¬ P g) : BelowP P B w w' := ⟨h.below hg hB, fun b hb hl => h.2 b hl (fun e => hP (e ▸ hb))⟩
theorem BelowP.setCell {P : Nat → Prop} {B : Nat} {a w : World} (h : BelowP P B a w) {p : Addr} (hp : B ≤ p.block) (hP : ¬ P p.block) (u : Value) : BelowP P B a (w.setCell p u) :=
  ⟨h.1.setCell hp u, fun b hb hl => (Below.heap_setCell w p u b (fun e => hP (e ▸ hb))).trans (h.2 b hb hl)⟩
theorem BelowP.grown {P : Nat → Prop} {B : Nat} {w w' : World} {row : Option Nat} (hg : w.grownBy w' row) (hB : B ≤ w.heap.size) (hr : ∀ k, row = some k → B ≤ k) (hP : ∀ k, row = some k → ¬ P k) : BelowP P B w w' :=
  ⟨(Below.refl B w).grown hg hB hr, fun b hb hl => hg.block b hl (fun e => hP b e.symm hb)⟩
theorem BelowP.weak {P Q : Nat → Prop} {B : Nat} {w w' : World} (h : BelowP P B w w') (hQ : ∀ b, Q b → P b) : BelowP Q B w w' := ⟨h.1, fun b hb hl => h.2 b (hQ b hb) hl⟩
theorem Dkp.weak {P Q : Nat → Prop} {w : World} {base g : Nat} {d : DSt} (h : Dkp P w base g d) (hQ : ∀ b, Q b → P b) : Dkp Q w base g d := by
  obtain ⟨vs, vr, h1, h2, h3, h4, h5, h6, h7, h8, p1, p2, p3, p4⟩ := h
  exact ⟨vs, vr, h1, h2, h3, h4, h5, h6, h7, h8, fun h => p1 (hQ _ h), fun b e h => p2 b e (hQ _ h), fun b e h => p3 b e (hQ _ h), fun b h => p4 b (hQ _ h)⟩
theorem Blk.belowP {P : Nat → Prop} {w w' : World} {B b : Nat} {cs : Array Value} {t : TypeId} (h : Blk w b cs t) (hb : BelowP P B w w') (hP : P b) : Blk w' b cs t := (hb.2 b hP h.lt).trans h
/-- What happens in one of the others' blocks is nothing to the disk. -/
theorem Dkp.chg {P : Nat → Prop} {w w' : World} {base g b : Nat} {d : DSt} (h : Dkp P w base g d) (hP : P b) (hc : Chg b w w') : Dkp P w' base g d := by
  obtain ⟨vs, vr, h1, h2, h3, h4, h5, h6, h7, h8, p1, p2, p3, p4⟩ := h
  exact ⟨vs, vr, h1.chg hc (fun e => p1 (e ▸ hP)), h2.chgV hc (fun e => p2 b e hP), h3.chgV hc (fun e => p3 b e hP), h4, h5, h6, h7, h8, p1, p2, p3, fun x hx => Nat.lt_of_lt_of_le (p4 x hx) hc.size⟩
/-- What was laid since a world, beside what was somebody else's. -/
def since (P : Nat → Prop) (w w' : World) : Nat → Prop := fun b => P b ∨ (w.heap.size ≤ b ∧ b < w'.heap.size)
theorem Dkp.since {P : Nat → Prop} {w w' : World} {base g : Nat} {d : DSt} (h : Dkp P w base g d) (hb : Below w.heap.size w w') : Dkp (since P w w') w' base g d :=
  h.later hb (fun b hb => hb.imp id And.left) (fun b hb2 => by
    obtain ⟨vs, vr, _, _, _, _, _, _, _, _, _, _, _, p4⟩ := h
    rcases hb2 with h2 | h2
    · exact Nat.lt_of_lt_of_le (p4 b h2) hb.size
    · exact h2.2)
theorem ret_i64i {a b : Int} (h : a = b) : Ending.returned (.int .i64 a) = .returned (.int .i64 b) := by rw [h]
set_option maxHeartbeats 1000000 in
theorem ahead_any (w : World) (g : Nat) (d : DSt) (vs vr : Value) (h : Blk w g (cellsD d vs vr) 65) :
    Calls Try.prog 44 #[.pointer (some ⟨g, 0, none⟩)] w fun x w' => x = .returned (if d.nw = true then .slice none 0 0 else vs) ∧ w = w' := by
  unfold cellsD at h
  have c1 : w.cell? ⟨g, 1, none⟩ = some vs := h.cell 1
  have c3 : w.cell? ⟨g, 3, none⟩ = some (.bool d.nw) := h.cell 3
  clear h
  cases hn : d.nw
  · rw [hn] at c3
    go_enter Try.func44, Try.ntmps44
    go_wp2_with fail
    go_ret
    exact ⟨rfl, rfl⟩
  · rw [hn] at c3
    go_enter Try.func44, Try.ntmps44
    go_wp2_with fail
    go_ret
    exact ⟨rfl, rfl⟩
set_option maxHeartbeats 1000000 in
theorem down_any (w : World) (base g : Nat) (d : DSt) (h : Dk w base g d) :
    Calls Try.prog 20 #[.pointer (some ⟨g, 0, none⟩)] w fun x w' => x = .returned (.bool d.dn) ∧ w = w' := by
  obtain ⟨vs, vr, h1, _⟩ := h
  have c4 : w.cell? ⟨g, 4, none⟩ = some (.bool d.dn) := h1.cell 4
  clear h1
  go_enter Try.func20, Try.ntmps20
  go_wp2_with fail
  go_ret
  exact ⟨rfl, rfl⟩
set_option maxHeartbeats 1000000 in
theorem sure_any (w : World) (base g : Nat) (d : DSt) (h : Dk w base g d) :
    Calls Try.prog 27 #[.pointer (some ⟨g, 0, none⟩)] w fun x w' => x = .returned (.int .i64 (d.S.length : Nat)) ∧ w = w' := by
  obtain ⟨vs, vr, h1, h2, _⟩ := h
  obtain ⟨p, c, rfl⟩ := h2.form
  have c1 : w.cell? ⟨g, 1, none⟩ = some (.slice p d.S.length c) := h1.cell 1
  clear h1 h2
  go_enter Try.func27, Try.ntmps27
  go_wp2_with fail
  go_ret
  exact ⟨rfl, rfl⟩
theorem ahead_len (d : DSt) : (d.ahead.length : Int) = if d.nw = true then 0 else (d.S.length : Int) := by unfold DSt.ahead; split <;> simp
set_option maxHeartbeats 2000000 in
theorem room_any (w : World) (base g : Nat) (d : DSt) (h : Dk w base g d) :
    Calls Try.prog 42 #[.pointer (some ⟨g, 0, none⟩)] w fun x w' => x = .returned (.int .i64 d.free) ∧ Below w.heap.size w w' := by
  obtain ⟨vs, vr, h1, h2, h3, _, _, _, _, hok⟩ := h
  obtain ⟨p, c, rfl⟩ := h2.form
  obtain ⟨q, e, rfl⟩ := h3.form
  have HA := Lib.hid (fun w' (hb : Below w.heap.size w w') => ahead_any w' g d _ _ (h1.below hb h1.lt))
  have HC0 : Hid (∀ w', Below w.heap.size w w' → w'.cell? ⟨g, 0, none⟩ = some (.int .i64 d.room)) := fun w' hb => (h1.below hb h1.lt).cell 0
  have HC2 : Hid (∀ w', Below w.heap.size w w' → w'.cell? ⟨g, 2, none⟩ = some (.slice q d.R.length e)) := fun w' hb => (h1.below hb h1.lt).cell 2
  have HF : Hid (d.free = (d.room : Int) - (if d.nw = true then 0 else (d.S.length : Int)) - (d.R.length : Int)) := by show _ = _; unfold DSt.free; rw [ahead_len]
  obtain ⟨k1, _, _, k4, k5, _⟩ := hok
  have hrm : (d.room : Int) ≤ 4194304 := by omega
  have hsl : (d.S.length : Int) ≤ 4194304 := by omega
  have hrl : (d.R.length : Int) ≤ 4194304 := by omega
  clear h1 h2 h3 k1 k4 k5
  generalize d.S.length = ns at *
  generalize d.R.length = nr at *
  generalize d.room = rm at *
  cases hn : d.nw
  all_goals
    rw [hn] at HA HF
    have a0 := HC0.out w.drew (Below.refl _ w).drew
    have a2 := HC2.out w.drew (Below.refl _ w).drew
    have HAd := Lib.hid (HA.out w.drew (Below.refl _ w).drew)
    clear HA HC0 HC2
    go_enter Try.func42, Try.ntmps42
    go_wp2_with fail
    go_region_held3 (fun w' => w'.cell? ⟨g, 0, none⟩ = some (.int .i64 rm) ∧ w'.cell? ⟨g, 2, none⟩ = some (.slice q nr e))
      (first | exact ⟨a0, a2⟩ | assumption)
      (first | (go_at_call 44; refine HAd.out.mono ?_; rintro y w1 ⟨rfl, rfl⟩))
    all_goals
      go_wp2_with fail
      go_ret
      refine ⟨ret_i64i ?_, (Below.refl _ w).drew⟩
      have e1 : IntKind.i64.wrap ((rm : Int) - (ns : Int)) = (rm : Int) - (ns : Int) := IntWalk.i64_in _ (by omega)
      have e2 : IntKind.i64.wrap ((rm : Int) - (ns : Int) - (nr : Int)) = (rm : Int) - (ns : Int) - (nr : Int) := IntWalk.i64_in _ (by omega)
      have e3 : IntKind.i64.wrap (rm : Int) = (rm : Int) := IntWalk.i64_in _ (by omega)
      have e4 : IntKind.i64.wrap ((rm : Int) - (nr : Int)) = (rm : Int) - (nr : Int) := IntWalk.i64_in _ (by omega)
      rw [HF.out]
      first | (rw [e1, e2]; rfl) | (rw [e3, e4]; simp)
end Go.Proofs.Ytjbhcdmeeakdcaa
