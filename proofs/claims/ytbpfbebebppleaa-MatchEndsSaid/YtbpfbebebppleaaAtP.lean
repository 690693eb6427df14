/- Values that are handed on: which blocks their rows lie in, and what leaves these alone; messages so. -/
import Derived.Test.YtbpfbebebppleaaLiftMsg
import Derived.Test.YtbpfbebebppleaaTRow3
import Derived.Test.YtbpfbebebppleaaChg
namespace Go.Proofs.Ytbpfbebebppleaa
open Go.RowKit
/-- A message's lists fit into the reach of memory. -/
def Msg.Sz (m : Msg) : Prop := m.ls.length * 32 ≤ 140737488351232 ∧ m.ns.length * 8 ≤ 140737488351232
/-- The block in which a slice lies is one of P, unless it is empty. -/
def At (P : Nat → Prop) (v : Value) (len : Nat) : Prop := ∀ b o n c, v = .slice (some ⟨b, o, none⟩) n c → 0 < len → P b
theorem At.nil_ (P : Nat → Prop) (v : Value) : At P v 0 := fun _ _ _ _ _ h => absurd h (Nat.lt_irrefl 0)
/-- Of P's blocks none is another one. -/
def KeepP (P : Nat → Prop) (w w' : World) : Prop := w.heap.size ≤ w'.heap.size ∧ ∀ b, b < w.heap.size → P b → w'.heap[b]? = w.heap[b]?
theorem KeepP.refl (P : Nat → Prop) (w : World) : KeepP P w w := ⟨Nat.le_refl _, fun _ _ _ => rfl⟩
theorem KeepP.of_below {P : Nat → Prop} {w w' : World} (h : Below w.heap.size w w') : KeepP P w w' := ⟨h.size, fun b hb _ => h.block b hb⟩
theorem KeepP.of_chg {P : Nat → Prop} {g : Nat} {w w' : World} (h : Chg g w w') (hg : ¬ P g) : KeepP P w w' := ⟨h.size, fun b hb hp => h.2 b hb (fun e => hg (e ▸ hp))⟩
theorem KeepP.trans {P : Nat → Prop} {w a b : World} (h : KeepP P w a) (k : KeepP P a b) : KeepP P w b := ⟨Nat.le_trans h.1 k.1, fun i hi hp => (k.2 i (Nat.lt_of_lt_of_le hi h.1) hp).trans (h.2 i hi hp)⟩
theorem TRow.lt_ {α : Type} {e : Enc α} {w : World} {b o : Nat} {n c : Nat} {xs : List α} (h : TRow e w (.slice (some ⟨b, o, none⟩) n c) xs) (hn : 0 < xs.length) : b < w.heap.size := by
  obtain ⟨b', o', e1, hb, _⟩ := h.at_ 0 hn
  cases e1
  exact hb
theorem Row.lt_ {k : IntKind} {w : World} {b o : Nat} {n c : Nat} {xs : List Int} (h : Row k w (.slice (some ⟨b, o, none⟩) n c) xs) (hn : 0 < xs.length) : b < w.heap.size := by
  obtain ⟨p', c', e1, _, h⟩ := h
  cases e1
  rcases h with h | ⟨b', o', hp, h⟩
  · subst h; simp at hn
  · cases hp
    exact World.block_lt_of_cell? w _ (h 0 hn)
theorem TRow.keepP {α : Type} {e : Enc α} {P : Nat → Prop} {w w' : World} {v : Value} {xs : List α} (h : TRow e w v xs) (ha : At P v xs.length) (hk : KeepP P w w') : TRow e w' v xs := by
  obtain ⟨p, c, rfl, hc, h⟩ := h
  refine ⟨p, c, rfl, hc, ?_⟩
  rcases h with h | ⟨b, o, rfl, hlt, h⟩
  · exact .inl h
  · by_cases hn : 0 < xs.length
    · have hb := hk.2 b hlt (ha b o _ _ rfl hn)
      exact .inr ⟨b, o, rfl, Nat.lt_of_lt_of_le hlt hk.1, fun i hi t ht => (World.cell?_of_block (a := ⟨b, _, none⟩) hb).trans (h i hi t ht)⟩
    · exact .inl (List.length_eq_zero_iff.1 (by omega))
theorem Row.keepP {k : IntKind} {P : Nat → Prop} {w w' : World} {v : Value} {xs : List Int} (h : Row k w v xs) (ha : At P v xs.length) (hk : KeepP P w w') : Row k w' v xs := by
  have h0 := h
  obtain ⟨p, c, rfl, hc, h⟩ := h
  refine ⟨p, c, rfl, hc, ?_⟩
  rcases h with h | ⟨b, o, rfl, h⟩
  · exact .inl h
  · by_cases hn : 0 < xs.length
    · have hb := hk.2 b (h0.lt_ hn) (ha b o _ _ rfl hn)
      exact .inr ⟨b, o, rfl, fun i hi => (World.cell?_of_block (a := ⟨b, _, none⟩) hb).trans (h i hi)⟩
    · exact .inl (List.length_eq_zero_iff.1 (by omega))
theorem OwnT.at_P {α : Type} {e : Enc α} {P : Nat → Prop} {w : World} {base : Nat} {ty : TypeId} {v : Value} {xs : List α} (h : OwnT e w base ty v xs) (hP : ∀ b, base ≤ b → P b) : At P v xs.length := by
  rintro b o n c rfl hn
  obtain ⟨_, h2⟩ := h
  rcases h2 with ⟨h2, _⟩ | ⟨g, cap, cur, h2, hb, _⟩
  · cases h2
  · cases h2
    exact hP _ hb
theorem Own.at_P {k : IntKind} {P : Nat → Prop} {w : World} {base : Nat} {ty : TypeId} {v : Value} {xs : List Int} (h : Own k w base ty v xs) (hP : ∀ b, base ≤ b → P b) : At P v xs.length := by
  rintro b o n c rfl hn
  obtain ⟨_, h2⟩ := h
  rcases h2 with ⟨h2, _⟩ | ⟨g, cap, cur, h2, hb, _⟩
  · cases h2
  · cases h2
    exact hP _ hb
/-- A message whose lists lie in P. -/
structure MsgX.InP (P : Nat → Prop) (w : World) (x : MsgX) : Prop where
  ls : TRow encN w x.vl x.m.ls
  ns : Row .i64 w x.vn x.m.ns
  al : At P x.vl x.m.ls.length
  an : At P x.vn x.m.ns.length
  sz : x.m.Sz
theorem MsgX.InP.kept {P : Nat → Prop} {w w' : World} {x : MsgX} (h : x.InP P w) (hb : Below w.heap.size w w') : x.InP P w' := ⟨h.ls.kept hb, h.ns.kept hb, h.al, h.an, h.sz⟩
theorem MsgX.InP.keepP {P : Nat → Prop} {w w' : World} {x : MsgX} (h : x.InP P w) (hk : KeepP P w w') : x.InP P w' := ⟨h.ls.keepP h.al hk, h.ns.keepP h.an hk, h.al, h.an, h.sz⟩
theorem MsgX.InP.mono {P Q : Nat → Prop} {w : World} {x : MsgX} (h : x.InP P w) (hq : ∀ b, b < w.heap.size → P b → Q b) : x.InP Q w :=
  ⟨h.ls, h.ns, fun b o n c e hn => hq b (by have h2 := h.ls; rw [e] at h2; exact h2.lt_ hn) (h.al b o n c e hn), fun b o n c e hn => hq b (by have h2 := h.ns; rw [e] at h2; exact h2.lt_ hn) (h.an b o n c e hn), h.sz⟩
theorem elt_cloneN_any : EltT encN Try.prog 37 90 (.agg #[.int .i64 0, .int .i64 0, .int .i64 0, .int .i64 0]) 32 := eltT_mk Try.underlying37 (by kernel_rfl)
theorem elt_mkM {P : Program} {t e : TypeId} {k : IntKind} {bytes : Nat} (ht : P.underlying t = some (.slice e)) (h : (P.info? e).map (fun i => (i.zero, i.size, i.bytes)) = some (some (.int k 0), 1, bytes)) : Elt P t e k bytes := by
  cases hi : P.info? e with
  | none => rw [hi] at h; cases h
  | some i =>
    rw [hi] at h
    simp at h
    exact ⟨i, ht, hi, h.1, h.2.1, h.2.2⟩
theorem elt64M : Elt Try.prog 38 2 .i64 8 := elt_mkM Try.underlying38 (by kernel_rfl)
theorem chg_putL (g : Nat) (W : World) : ∀ (vs : List Value) (o : Nat) (w : World), Chg g W w → Chg g W (w.setCells g o vs)
  | [], _, _, h => h
  | v :: vs, o, w, h => by rw [World.setCells]; exact chg_putL g W vs (o + 1) _ (h.set o v)
theorem Own.stayV {k : IntKind} {w w' : World} {base : Nat} {e : TypeId} {v : Value} {zs : List Int} (h : Own k w base e v zs) (hk : ∀ g, v.ownBlock = some g → w'.heap[g]? = w.heap[g]?) : Own k w' base e v zs := by
  refine ⟨h.1, ?_⟩
  rcases h.2 with h | ⟨g, cap, cur, rfl, hbg, hg, hr⟩
  · exact .inl h
  · exact .inr ⟨g, cap, cur, rfl, hbg, (hk g rfl).trans hg, hr⟩
theorem own_less {k : IntKind} {w : World} {base base' : Nat} {e : TypeId} {v : Value} {zs : List Int} (h : Own k w base e v zs) (hb : base' ≤ base) : Own k w base' e v zs := by
  refine ⟨h.1, ?_⟩
  rcases h.2 with h | ⟨g, cap, cur, rfl, hbg, hg, hr⟩
  · exact .inl h
  · exact .inr ⟨g, cap, cur, rfl, Nat.le_trans hb hbg, hg, hr⟩
theorem one11M (k s n b c r y a : Int) (t : Bool) (pl pn : Option Addr) (nl cl nn cn : Nat) : ∀ u ∈ [Value.int .i64 k, .int .i64 s, .int .i64 n, .int .i64 b, .int .i64 c, .int .i64 r, .int .i64 y, .int .i64 a, .bool t, .slice pl nl cl, .slice pn nn cn], u.oneCell' = true := by
  intro u hu
  simp at hu
  rcases hu with rfl | rfl | rfl | rfl | rfl | rfl | rfl | rfl | rfl | rfl | rfl <;> rfl
end Go.Proofs.Ytbpfbebebppleaa
