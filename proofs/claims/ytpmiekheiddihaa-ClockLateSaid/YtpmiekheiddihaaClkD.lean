/- What is due: structs behind pointers, in a slice. -/
import Derived.Test.YtpmiekheiddihaaCmp
import Derived.Test.YtpmiekheiddihaaTRow2
import Derived.Test.YtpmiekheiddihaaChg
namespace Go.Proofs.Ytpmiekheiddihaa
open Go.RowKit
/-- What is due: its block, its name, when it is due, which of all sets it is. -/
structure Du where
  b : Nat
  nm : ByteArray
  t : Int
  s : Int
def Du.cells (d : Du) (i : Int) : Array Value := #[.string d.nm, .int .i64 d.t, .int .i64 d.s, .int .i64 i]
def encU : Enc Du := ⟨1, fun d => [.pointer (some ⟨d.b, 0, none⟩)], by decide, fun _ => rfl, by intro x u hu; simp at hu; subst hu; rfl⟩
theorem eltU : EltT encU Try.prog 57 61 (.pointer none) 8 := eltT_mk Try.underlying57 (by kernel_rfl)
/-- Of what was there only P's blocks may be other ones. -/
def ChgP (P : Nat → Prop) (w w' : World) : Prop := Below 0 w w' ∧ ∀ b, b < w.heap.size → ¬ P b → w'.heap[b]? = w.heap[b]?
theorem ChgP.refl (P : Nat → Prop) (w : World) : ChgP P w w := ⟨Below.refl _ _, fun _ _ _ => rfl⟩
theorem ChgP.size {P : Nat → Prop} {w w' : World} (h : ChgP P w w') : w.heap.size ≤ w'.heap.size := h.1.size
theorem ChgP.of_below {P : Nat → Prop} {w w' : World} (h : Below w.heap.size w w') : ChgP P w w' := ⟨h.mono (Nat.zero_le _), fun b hb _ => h.block b hb⟩
theorem ChgP.of_chg {P : Nat → Prop} {g : Nat} {w w' : World} (h : Chg g w w') (hg : P g) : ChgP P w w' := ⟨h.1, fun b hb hp => h.2 b hb (fun e => hp (e ▸ hg))⟩
theorem ChgP.trans {P : Nat → Prop} {w a b : World} (h : ChgP P w a) (k : ChgP P a b) : ChgP P w b := ⟨h.1.trans k.1, fun j hj hp => (k.2 j (Nat.lt_of_lt_of_le hj h.size) hp).trans (h.2 j hj hp)⟩
theorem ChgP.imp {P Q : Nat → Prop} {w w' : World} (h : ChgP P w w') (hq : ∀ b, b < w.heap.size → P b → Q b) : ChgP Q w w' := ⟨h.1, fun b hb hn => h.2 b hb (fun hp => hn (hq b hb hp))⟩
theorem ChgP.below {P : Nat → Prop} {w w' : World} {B : Nat} (h : ChgP P w w') (hP : ∀ b, P b → B ≤ b) (hB : B ≤ w.heap.size) : Below B w w' :=
  ⟨h.1.1, h.1.2, h.1.3, h.1.4, fun k hk => h.2 k (by omega) (fun hp => by have := hP k hp; omega)⟩
theorem ChgP.blk {P : Nat → Prop} {w w' : World} {b : Nat} {cs : Array Value} {t : TypeId} (h : ChgP P w w') (hb : Blk w b cs t) (hn : ¬ P b) : Blk w' b cs t := (h.2 b hb.lt hn).trans hb
/-- The sooner; of one time, the one that was set earlier. -/
def lessU (d e : Du) : Bool := decide (ord2 d.t d.s e.t e.s < 0)
theorem lessU_iff {d e : Du} : lessU d e = true ↔ d.t < e.t ∨ (d.t = e.t ∧ d.s < e.s) := by
  unfold lessU ord2 ord
  rw [decide_eq_true_eq]
  repeat' split
  all_goals omega
theorem lessU_not {d e : Du} : lessU d e = false ↔ ¬ (d.t < e.t ∨ (d.t = e.t ∧ d.s < e.s)) := by
  rw [← lessU_iff, Bool.not_eq_true]
/-- Where the dues lie: a row of pointers, each to a block of its own, which tells its place. -/
structure Hp (P : Nat → Prop) (w : World) (p : Option Addr) (n c : Nat) (hs : List Du) : Prop where
  own : OwnT encU w 0 61 (.slice p n c) hs
  len : hs.length = n
  at_ : ∀ i (hi : i < hs.length), Blk w hs[i].b (hs[i].cells i) 65
  row : ∀ s, (Value.slice p n c).ownBlock = some s → P s
  inP : ∀ d ∈ hs, P d.b
  ne : ∀ d ∈ hs, (Value.slice p n c).ownBlock ≠ some d.b
  nd : hs.Pairwise (fun d e => d.b ≠ e.b)
theorem Hp.mono {P Q : Nat → Prop} {w : World} {p : Option Addr} {n c : Nat} {hs : List Du} (h : Hp P w p n c hs) (hq : ∀ b, b < w.heap.size → P b → Q b) : Hp Q w p n c hs :=
  ⟨h.own, h.len, h.at_, fun s hs => hq s (h.own.lt s hs) (h.row s hs), fun d hd => by
    obtain ⟨i, hi, rfl⟩ := List.mem_iff_getElem.1 hd
    exact hq _ (h.at_ i hi).lt (h.inP _ hd), h.ne, h.nd⟩
theorem Hp.stay {P : Nat → Prop} {w w' : World} {p : Option Addr} {n c : Nat} {hs : List Du} (h : Hp P w p n c hs) (hk : ∀ b, b < w.heap.size → P b → w'.heap[b]? = w.heap[b]?) : Hp P w' p n c hs :=
  ⟨h.own.stay (fun s hs => hk s (h.own.lt s hs) (h.row s hs)), h.len, fun i hi => (hk _ (h.at_ i hi).lt (h.inP _ (List.getElem_mem hi))).trans (h.at_ i hi), h.row, h.inP, h.ne, h.nd⟩
theorem Hp.kept {P : Nat → Prop} {w w' : World} {p : Option Addr} {n c : Nat} {hs : List Du} (h : Hp P w p n c hs) (hb : Below w.heap.size w w') : Hp P w' p n c hs := h.stay (fun b hb' _ => hb.block b hb')
theorem Hp.lt {P : Nat → Prop} {w : World} {p : Option Addr} {n c : Nat} {hs : List Du} (h : Hp P w p n c hs) : ∀ d ∈ hs, d.b < w.heap.size := fun d hd => by
  obtain ⟨i, hi, rfl⟩ := List.mem_iff_getElem.1 hd
  exact (h.at_ i hi).lt
/-- Where the i-th lies. -/
theorem Hp.where_ {P : Nat → Prop} {w : World} {p : Option Addr} {n c : Nat} {hs : List Du} (h : Hp P w p n c hs) (hn : 0 < n) : ∃ g, p = some ⟨g, 0, none⟩ ∧ g < w.heap.size ∧ P g ∧ (∀ d ∈ hs, g ≠ d.b) ∧ ∀ i (hi : i < hs.length), w.cell? ⟨g, i, none⟩ = some (.pointer (some ⟨hs[i].b, 0, none⟩)) := by
  obtain ⟨g, cur, rfl, _, hg, hnc, _, hsz, _, hl⟩ := h.own.lies hn
  refine ⟨g, rfl, hg.lt, h.row g rfl, fun d hd e => h.ne d hd (by rw [← e]; rfl), fun i hi => ?_⟩
  obtain ⟨b, o, e1, _, hx⟩ := h.own.row.at_ i hi
  obtain ⟨rfl, rfl⟩ : g = b ∧ 0 = o := by simpa using e1
  have := hx 0 (by decide)
  simpa [encU] using this
end Go.Proofs.Ytpmiekheiddihaa
