/- A net in memory: packets on their way, each in a block of its own. -/
import Derived.Test.YtfdehnfcoojljaaPkData
namespace Go.Proofs.Ytfdehnfcoojljaa
open Go.RowKit
/-- The address of a block, as an element of a slice. -/
def encA : Enc Nat := ⟨1, fun b => [.pointer (some ⟨b, 0, none⟩)], by decide, fun _ => rfl, by intro x u hu; simp at hu; subst hu; rfl⟩
theorem eltA : EltT encA Try.prog 24 55 (.pointer none) 8 := eltT_mk Try.underlying24 (by kernel_rfl)
/-- Of what was there only P's blocks may be other ones. -/
def ChgP (P : Nat → Prop) (w w' : World) : Prop := Below 0 w w' ∧ ∀ b, b < w.heap.size → ¬ P b → w'.heap[b]? = w.heap[b]?
theorem ChgP.refl (P : Nat → Prop) (w : World) : ChgP P w w := ⟨Below.refl _ _, fun _ _ _ => rfl⟩
theorem ChgP.size {P : Nat → Prop} {w w' : World} (h : ChgP P w w') : w.heap.size ≤ w'.heap.size := h.1.size
theorem ChgP.of_below {P : Nat → Prop} {w w' : World} (h : Below w.heap.size w w') : ChgP P w w' := ⟨h.mono (Nat.zero_le _), fun b hb _ => h.block b hb⟩
theorem ChgP.of_chg {P : Nat → Prop} {g : Nat} {w w' : World} (h : Chg g w w') (hg : P g) : ChgP P w w' := ⟨h.1, fun b hb hp => h.2 b hb (fun e => hp (e ▸ hg))⟩
theorem ChgP.trans {P : Nat → Prop} {w a b : World} (h : ChgP P w a) (k : ChgP P a b) : ChgP P w b := ⟨h.1.trans k.1, fun j hj hp => (k.2 j (Nat.lt_of_lt_of_le hj h.size) hp).trans (h.2 j hj hp)⟩
theorem ChgP.imp {P Q : Nat → Prop} {w w' : World} (h : ChgP P w w') (hq : ∀ b, b < w.heap.size → P b → Q b) : ChgP Q w w' := ⟨h.1, fun b hb hn => h.2 b hb (fun hp => hn (hq b hb hp))⟩
theorem ChgP.below {P : Nat → Prop} {w w' : World} {B : Nat} (h : ChgP P w w') (hP : ∀ b, P b → B ≤ b) (hB : B ≤ w.heap.size) : Below B w w' :=
  ⟨h.1.1, h.1.2, h.1.3, h.1.4, fun k hk => h.2 k (by omega) (fun hp => by have := hP k hp; omega)⟩
theorem ChgP.keep {P Q : Nat → Prop} {w w' : World} (h : ChgP P w w') (hQ : ∀ b, Q b → ¬ P b) : KeepP Q w w' := ⟨h.size, fun b hb hq => h.2 b hb (hQ b hq)⟩
theorem ChgP.blk {P : Nat → Prop} {w w' : World} {b : Nat} {cs : Array Value} {t : TypeId} (h : ChgP P w w') (hb : Blk w b cs t) (hn : ¬ P b) : Blk w' b cs t := (h.2 b hb.lt hn).trans hb
theorem Blk.keepP {P : Nat → Prop} {w w' : World} {b : Nat} {cs : Array Value} {t : TypeId} (hb : Blk w b cs t) (h : KeepP P w w') (hp : P b) : Blk w' b cs t := (h.2 b hb.lt hp).trans hb
/-- A packet in a block, its lists in blocks of P. -/
def PkAt (P : Nat → Prop) (w : World) (a : Nat) (k : Pk) : Prop := ∃ y : PkX, Blk w a y.cells.toArray 38 ∧ P a ∧ y.x.InP P w ∧ y.pk = k
theorem PkAt.keepP {P : Nat → Prop} {w w' : World} {a : Nat} {k : Pk} (h : PkAt P w a k) (hk : KeepP P w w') : PkAt P w' a k := by
  obtain ⟨y, h1, h2, h3, h4⟩ := h
  exact ⟨y, h1.keepP hk h2, h2, h3.keepP hk, h4⟩
theorem PkAt.mono {P Q : Nat → Prop} {w : World} {a : Nat} {k : Pk} (h : PkAt P w a k) (hq : ∀ b, b < w.heap.size → P b → Q b) : PkAt Q w a k := by
  obtain ⟨y, h1, h2, h3, h4⟩ := h
  exact ⟨y, h1, hq a h1.lt h2, h3.mono hq, h4⟩
def InF (P : Nat → Prop) (g : Nat) (v : Value) (b : Nat) : Prop := P b ∧ b ≠ g ∧ v.ownBlock ≠ some b
/-- A net: its own block g, the slice's, the packets and their lists all in blocks of P. -/
structure FlyX (P : Nat → Prop) (w : World) (g : Nat) (ks : List Pk) (p : Option Addr) (n c : Nat) (aa : List Nat) : Prop where
  blk : Blk w g #[.slice p n c] 26
  own : OwnT encA w 0 55 (.slice p n c) aa
  len : aa.length = ks.length
  inP : P g
  sown : ∀ s, (Value.slice p n c).ownBlock = some s → P s ∧ s ≠ g
  max : n ≤ 8192
  at_ : ∀ i (hi : i < aa.length) (hi' : i < ks.length), PkAt (InF P g (.slice p n c)) w aa[i] ks[i]
def Fly (P : Nat → Prop) (w : World) (g : Nat) (ks : List Pk) : Prop := ∃ p c aa, FlyX P w g ks p ks.length c aa
theorem FlyX.mono {P Q : Nat → Prop} {w : World} {g : Nat} {ks : List Pk} {p : Option Addr} {n c : Nat} {aa : List Nat} (h : FlyX P w g ks p n c aa) (hq : ∀ b, b < w.heap.size → P b → Q b) : FlyX Q w g ks p n c aa :=
  ⟨h.blk, h.own, h.len, hq g h.blk.lt h.inP, fun s hs => ⟨hq s (h.own.lt s hs) (h.sown s hs).1, (h.sown s hs).2⟩, h.max, fun i hi hi' => (h.at_ i hi hi').mono (fun b hb hp => ⟨hq b hb hp.1, hp.2⟩)⟩
theorem FlyX.keepP {P : Nat → Prop} {w w' : World} {g : Nat} {ks : List Pk} {p : Option Addr} {n c : Nat} {aa : List Nat} (h : FlyX P w g ks p n c aa) (hk : KeepP P w w') : FlyX P w' g ks p n c aa :=
  ⟨h.blk.keepP hk h.inP, h.own.stay (fun s hs => hk.2 s (h.own.lt s hs) (h.sown s hs).1), h.len, h.inP, h.sown, h.max, fun i hi hi' => (h.at_ i hi hi').keepP (hk.weak (fun _ hb => hb.1))⟩
theorem Fly.mono {P Q : Nat → Prop} {w : World} {g : Nat} {ks : List Pk} (h : Fly P w g ks) (hq : ∀ b, b < w.heap.size → P b → Q b) : Fly Q w g ks := by
  obtain ⟨p, c, aa, h⟩ := h
  exact ⟨p, c, aa, h.mono hq⟩
theorem Fly.keepP {P : Nat → Prop} {w w' : World} {g : Nat} {ks : List Pk} (h : Fly P w g ks) (hk : KeepP P w w') : Fly P w' g ks := by
  obtain ⟨p, c, aa, h⟩ := h
  exact ⟨p, c, aa, h.keepP hk⟩
theorem Fly.kept {P : Nat → Prop} {w w' : World} {g : Nat} {ks : List Pk} (h : Fly P w g ks) (hb : Below w.heap.size w w') : Fly P w' g ks := h.keepP (KeepP.of_below hb)
theorem Fly.lt {P : Nat → Prop} {w : World} {g : Nat} {ks : List Pk} (h : Fly P w g ks) : g < w.heap.size := by obtain ⟨p, c, aa, h⟩ := h; exact h.blk.lt
theorem Fly.inP {P : Nat → Prop} {w : World} {g : Nat} {ks : List Pk} (h : Fly P w g ks) : P g := by obtain ⟨p, c, aa, h⟩ := h; exact h.inP
theorem Fly.max {P : Nat → Prop} {w : World} {g : Nat} {ks : List Pk} (h : Fly P w g ks) : ks.length ≤ 8192 := by obtain ⟨p, c, aa, h⟩ := h; exact h.max
/-- The zero net. -/
theorem Fly.zero (P : Nat → Prop) {w : World} {g : Nat} (h : Blk w g #[.slice none 0 0] 26) (hP : P g) : Fly P w g [] :=
  ⟨none, 0, [], h, OwnT.nil_ _ _ _ _, rfl, hP, (fun s h => by cases h), by decide, (fun i hi => by cases hi)⟩
/-- The blocks that a call may add to P's. -/
def Grow (P : Nat → Prop) (w w' : World) (b : Nat) : Prop := P b ∨ w.heap.size ≤ b ∧ b < w'.heap.size
end Go.Proofs.Ytfdehnfcoojljaa
