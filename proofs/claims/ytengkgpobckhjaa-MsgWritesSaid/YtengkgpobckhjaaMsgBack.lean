/- A message that was written is read as it was; of one byte more or less it is none. The first example of layer 11 is right. -/
import Derived.Test.YtengkgpobckhjaaMsgWrite
import Derived.Test.YtengkgpobckhjaaMsgRead
import Derived.Test.YtengkgpobckhjaaStrRow
namespace Go.Proofs.Ytengkgpobckhjaa
open Go.RowKit
theorem Row.cut {k : IntKind} {w : World} {n c : Nat} {p : Option Addr} {zs : List Int} (h : Row k w (.slice p n c) zs) (m : Nat) (hm : m ≤ zs.length) : Row k w (.slice p m c) (zs.take m) := by
  obtain ⟨p', c', e, hc, h⟩ := h
  cases e
  refine ⟨p, c, by rw [List.length_take, Nat.min_eq_left hm], by rw [List.length_take]; omega, ?_⟩
  rcases h with h | ⟨b, o, hp, h⟩
  · left; rw [h]; simp
  · refine .inr ⟨b, o, hp, fun i hi => ?_⟩
    rw [List.length_take] at hi
    rw [h i (by omega), List.getD_eq_getElem?_getD, List.getD_eq_getElem?_getD, List.getElem?_take, if_pos (by omega)]
theorem readL_cut {n : Int} (h1 : -9223372036854775808 ≤ n) (h2 : n ≤ 9223372036854775807) : readL (natsOf (numL n).dropLast) = (0, 0, 40) := by
  have hz := zz_lt h1 h2
  exact readP_short (zz n) 0 0 (by simpa using hz)
theorem numE_cut {n : Int} (h1 : -9223372036854775808 ≤ n) (h2 : n ≤ 9223372036854775807) : numE (numL n).dropLast 0 = 40 := by unfold numE; rw [if_pos rfl, readL_cut h1 h2]
theorem numL_nought : numL 0 = [0] := by unfold numL; rw [leb_small (by decide)]; rfl
theorem flat_oct {α : Type} {f : α → List Int} (hf : ∀ x, Oct (f x)) : ∀ xs : List α, Oct (xs.flatMap f)
  | [] => fun _ h => by cases h
  | x :: xs => by
    rw [List.flatMap_cons]
    exact (hf x).append (flat_oct hf xs)
theorem boL_oct (t : Bool) : Oct (boL t) := by intro a ha; simp [boL] at ha; subst ha; split <;> omega
theorem linL_oct (x : Lin) : Oct (linL x) := (numL_oct _).append ((numL_oct _).append ((numL_oct _).append (numL_oct _)))
theorem msgL3_oct (m : Msg) : Oct (msgL3 m) := (numL_oct _).append ((flat_oct linL_oct _).append ((numL_oct _).append (flat_oct (fun z => numL_oct z) _)))
theorem msgL_oct (m : Msg) : Oct (msgL m) := (numL_oct _).append ((numL_oct _).append ((numL_oct _).append ((numL_oct _).append ((numL_oct _).append ((numL_oct _).append ((numL_oct _).append ((numL_oct _).append ((boL_oct _).append (msgL3_oct m)))))))))
theorem rE_w {m : Msg} (hE : msgE m = 0) (hF : m.Fit) : rE (msgL m) = 0 ∧ rM (msgL m) = m := by
  obtain ⟨h1, h2, h3⟩ := msg_w hE hF []
  rw [List.append_nil] at h1 h2 h3
  have h4 : rE (msgL m) = 0 := by unfold rE; rw [if_pos h1, h3]; rfl
  exact ⟨h4, by unfold rM; rw [if_pos h4, h2]⟩
theorem rE_more {m : Msg} (hE : msgE m = 0) (hF : m.Fit) (x : Int) : rE (msgL m ++ [x]) = 41 ∧ rM (msgL m ++ [x]) = msg0 := by
  obtain ⟨h1, h2, h3⟩ := msg_w hE hF [x]
  have h4 : rE (msgL m ++ [x]) = 41 := by unfold rE; rw [if_pos h1, h3]; rfl
  exact ⟨h4, by unfold rM; rw [if_neg (by rw [h4]; decide)]⟩
/-- Up to the number of lines. -/
def msgF (m : Msg) : List Int := numL m.k ++ (numL m.s ++ (numL m.n ++ (numL m.b ++ (numL m.c ++ (numL m.r ++ (numL m.y ++ (numL m.a ++ (boL m.t ++ numL m.ls.length))))))))
theorem msgF_eq (m : Msg) : msgL m = msgF m ++ (m.ls.flatMap linL ++ (numL m.ns.length ++ m.ns.flatMap numL)) := by
  unfold msgL msgL2 msgL3 msgF
  simp only [List.append_assoc]
theorem msg_front {m : Msg} (hE : msgE m = 0) (hF : m.Fit) (T : List Int) : badK ⟨msgF m ++ T, 0⟩ = false ∧ R10 ⟨msgF m ++ T, 0⟩ = ⟨T, 0⟩ ∧ nLs ⟨msgF m ++ T, 0⟩ = m.ls.length := by
  obtain ⟨hk, hl, hn, hnums, hls⟩ := msgE_ok hE
  obtain ⟨⟨_, _, _, _, _, _, _, ha⟩, hFl, hFn⟩ := hF
  simp only [Msg.numsOk, Bool.and_eq_true] at hnums
  obtain ⟨h1, h2, h3, h4, h5, h6⟩ := hnums
  have h0 : okN m.k = true := by have := okK_iff.1 hk; exact okN_iff.2 (by omega)
  have e0 : (⟨msgF m ++ T, 0⟩ : RS).nx = ⟨numL m.s ++ (numL m.n ++ (numL m.b ++ (numL m.c ++ (numL m.r ++ (numL m.y ++ (numL m.a ++ (boL m.t ++ (numL m.ls.length ++ T)))))))), 0⟩ ∧ (⟨msgF m ++ T, 0⟩ : RS).nV = m.k := by
    unfold msgF
    simp only [List.append_assoc]
    exact nx_w h0 _
  generalize hR : (⟨msgF m ++ T, 0⟩ : RS) = R at *
  obtain ⟨e0, v0⟩ := e0
  have hbad : badK R = false := by unfold badK; rw [e0, v0, hk]; rfl
  have e1 := (nx_w h1 (numL m.n ++ (numL m.b ++ (numL m.c ++ (numL m.r ++ (numL m.y ++ (numL m.a ++ (boL m.t ++ (numL m.ls.length ++ T))))))))).1
  have e2 := (nx_w h2 (numL m.b ++ (numL m.c ++ (numL m.r ++ (numL m.y ++ (numL m.a ++ (boL m.t ++ (numL m.ls.length ++ T)))))))).1
  have e3 := (nx_w h3 (numL m.c ++ (numL m.r ++ (numL m.y ++ (numL m.a ++ (boL m.t ++ (numL m.ls.length ++ T))))))).1
  have e4 := (nx_w h4 (numL m.r ++ (numL m.y ++ (numL m.a ++ (boL m.t ++ (numL m.ls.length ++ T)))))).1
  have e5 := (nx_w h5 (numL m.y ++ (numL m.a ++ (boL m.t ++ (numL m.ls.length ++ T))))).1
  have e6 := (nx_w h6 (numL m.a ++ (boL m.t ++ (numL m.ls.length ++ T)))).1
  have e8 := (num_w ha (boL m.t ++ (numL m.ls.length ++ T))).1
  have e9 := (bool_w m.t (numL m.ls.length ++ T)).1
  have q9 : R9 R = ⟨numL m.ls.length ++ T, 0⟩ := by unfold R9 R7; rw [e0, e1, e2, e3, e4, e5, e6, e8, e9]
  obtain ⟨e10, v10⟩ := int_w (z := (m.ls.length : Int)) (a := 0) (b := 1024) (by unfold I64; omega) (by omega) (by omega) T
  refine ⟨hbad, ?_, ?_⟩
  · unfold R10; rw [q9, e10]
  · unfold nLs; rw [q9, v10]; omega
theorem numL_ne (z : Int) : numL z ≠ [] := leb_ne _
theorem rE_short {m : Msg} (hE : msgE m = 0) (hF : m.Fit) : rE (msgL m).dropLast = 40 := by
  obtain ⟨hk, hl, hn, hnums, hls⟩ := msgE_ok hE
  obtain ⟨_, hFl, hFn⟩ := id hF
  have key : rdE ⟨(msgL m).dropLast, 0⟩ = 40 := by
    rw [msgF_eq]
    by_cases h0 : m.ns = []
    · have e : (msgF m ++ (m.ls.flatMap linL ++ (numL m.ns.length ++ m.ns.flatMap numL))).dropLast = msgF m ++ (m.ls.flatMap linL ++ (numL 0).dropLast) := by
        rw [h0, List.flatMap_nil, List.append_nil, ← List.append_assoc, List.dropLast_append_of_ne_nil (numL_ne _), List.append_assoc]
        rfl
      rw [e]
      obtain ⟨f1, f2, f3⟩ := msg_front hE hF (m.ls.flatMap linL ++ (numL 0).dropLast)
      generalize (⟨msgF m ++ (m.ls.flatMap linL ++ (numL 0).dropLast), 0⟩ : RS) = R at *
      have q11 : R11 R = ⟨(numL 0).dropLast, 0⟩ := by unfold R11; rw [f2, f3, (lins_w m.ls.length m.ls rfl (fun x hx => List.all_eq_true.1 hls x hx) (fun x hx => (hFl x hx).2.2.2) _).1]
      have hd : (numL 0).dropLast = [] := by rw [numL_nought]; rfl
      have q12 : R12 R = ⟨[], 40⟩ := by unfold R12; rw [q11, hd]; rfl
      have qn : nNs R = 0 := by unfold nNs; rw [q11, hd]; rfl
      unfold rdE R13
      rw [f1, qn, q12]
      rfl
    · have hsp := (List.dropLast_concat_getLast h0).symm
      generalize hp : m.ns.dropLast = ps at hsp
      generalize hz : m.ns.getLast h0 = z at hsp
      have hzF : I64 z := hFn z (by rw [hsp]; simp)
      have hpl : m.ns.length = ps.length + 1 := by rw [hsp]; simp
      have e : (msgF m ++ (m.ls.flatMap linL ++ (numL m.ns.length ++ m.ns.flatMap numL))).dropLast = msgF m ++ (m.ls.flatMap linL ++ (numL m.ns.length ++ (ps.flatMap numL ++ (numL z).dropLast))) := by
        have e1 : m.ns.flatMap numL = ps.flatMap numL ++ numL z := by rw [hsp]; simp
        rw [e1, ← List.append_assoc, ← List.append_assoc, ← List.append_assoc, List.dropLast_append_of_ne_nil (numL_ne _)]
        simp only [List.append_assoc]
      rw [e]
      obtain ⟨f1, f2, f3⟩ := msg_front hE hF (m.ls.flatMap linL ++ (numL m.ns.length ++ (ps.flatMap numL ++ (numL z).dropLast)))
      generalize (⟨msgF m ++ (m.ls.flatMap linL ++ (numL m.ns.length ++ (ps.flatMap numL ++ (numL z).dropLast))), 0⟩ : RS) = R at *
      have q11 : R11 R = ⟨numL m.ns.length ++ (ps.flatMap numL ++ (numL z).dropLast), 0⟩ := by unfold R11; rw [f2, f3, (lins_w m.ls.length m.ls rfl (fun x hx => List.all_eq_true.1 hls x hx) (fun x hx => (hFl x hx).2.2.2) _).1]
      obtain ⟨e12, v12⟩ := int_w (z := (m.ns.length : Int)) (a := 0) (b := 8) (by unfold I64; omega) (by omega) (by omega) (ps.flatMap numL ++ (numL z).dropLast)
      have q12 : R12 R = ⟨ps.flatMap numL ++ (numL z).dropLast, 0⟩ := by unfold R12; rw [q11, e12]
      have qn : nNs R = ps.length + 1 := by unfold nNs; rw [q11, v12]; omega
      have qe : ((⟨ps.flatMap numL ++ (numL z).dropLast, 0⟩ : RS).nets ps.length) = ⟨(numL z).dropLast, 0⟩ := (nets_w ps.length ps rfl (fun x hx => hFn x (by rw [hsp]; exact List.mem_append_left _ hx)) _).1
      unfold rdE R13
      rw [f1, qn, q12, RS.nets, qe]
      exact numE_cut hzF.1 hzF.2
  unfold rE
  rw [key]
  rfl
def vote3 : Msg := ⟨13, 0, 0, 0, 0, 0, 3, 0, true, [], []⟩
theorem numL_13 : numL 13 = [26] := by unfold numL; rw [leb_small (by decide)]; rfl
theorem numL_3 : numL 3 = [6] := by unfold numL; rw [leb_small (by decide)]; rfl
theorem vote3_E : msgE vote3 = 0 := by decide
theorem vote3_L : msgL vote3 = [26, 0, 0, 0, 0, 0, 6, 0, 1, 0, 0] := by
  unfold msgL msgL2 msgL3 vote3
  simp only [List.length_nil, List.flatMap_nil]
  rw [numL_13, numL_3, show ((0 : Nat) : Int) = 0 from rfl, numL_nought]
  rfl
theorem vote3_F : vote3.Fit := by
  refine ⟨?_, (fun _ h => by cases h), (fun _ h => by cases h)⟩
  unfold vote3 I64
  decide
end Go.Proofs.Ytengkgpobckhjaa
