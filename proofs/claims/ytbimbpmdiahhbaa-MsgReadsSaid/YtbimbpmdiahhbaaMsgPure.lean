/- A message: its bytes, and what is read of any bytes. -/
import Derived.Test.YtbimbpmdiahhbaaMsgData
import Derived.Test.YtbimbpmdiahhbaaReadB
import Derived.Test.YtbimbpmdiahhbaaNumFacts
import Derived.Test.YtbimbpmdiahhbaaIntFacts
namespace Go.Proofs.Ytbimbpmdiahhbaa
open Go.RowKit
def okN (z : Int) : Bool := decide (0 ≤ z) && decide (z ≤ 1073741824)
theorem okN_iff {z : Int} : okN z = true ↔ 0 ≤ z ∧ z ≤ 1073741824 := by simp [okN]
theorem okN_outB (z : Int) : outB z 0 1073741824 = !okN z := by
  unfold outB okN
  by_cases h1 : 0 ≤ z <;> by_cases h2 : z ≤ 1073741824 <;> simp [h1, h2] <;> omega
theorem okN_64 {z : Int} (h : okN z = true) : I64 z := by have := okN_iff.1 h; unfold I64; omega
def okK (k : Int) : Bool := decide (1 ≤ k) && decide (k ≤ 16)
theorem okK_iff {z : Int} : okK z = true ↔ 1 ≤ z ∧ z ≤ 16 := by simp [okK]
def Lin.ok (x : Lin) : Bool := okN x.s && (okN x.n && okN x.b)
def Msg.numsOk (m : Msg) : Bool := okN m.s && (okN m.n && (okN m.b && (okN m.c && (okN m.r && okN m.y))))
def msgE (m : Msg) : Int := if okK m.k = false then 110 else if 1024 < m.ls.length ∨ 8 < m.ns.length then 2 else if m.numsOk = false ∨ m.ls.all Lin.ok = false then 1 else 0
theorem msgE_ok {m : Msg} (h : msgE m = 0) : okK m.k = true ∧ m.ls.length ≤ 1024 ∧ m.ns.length ≤ 8 ∧ m.numsOk = true ∧ m.ls.all Lin.ok = true := by
  unfold msgE at h
  split at h
  · cases h
  · split at h
    · cases h
    · split at h
      · cases h
      · rename_i h1 h2 h3
        simp only [not_or, Bool.not_eq_false] at h1 h3
        exact ⟨h1, by omega, by omega, h3.1, h3.2⟩
def linL (x : Lin) : List Int := numL x.s ++ (numL x.n ++ (numL x.b ++ numL x.a))
def boL (t : Bool) : List Int := [if t then 1 else 0]
/-- Behind the six numbers. -/
def msgL3 (m : Msg) : List Int := numL m.ls.length ++ (m.ls.flatMap linL ++ (numL m.ns.length ++ m.ns.flatMap numL))
def msgL2 (m : Msg) : List Int := numL m.a ++ (boL m.t ++ msgL3 m)
def msgL (m : Msg) : List Int := numL m.k ++ (numL m.s ++ (numL m.n ++ (numL m.b ++ (numL m.c ++ (numL m.r ++ (numL m.y ++ msgL2 m))))))
/-- What a reader holds: what is left, its error. -/
structure RS where
  z : List Int
  e : Int
def RS.num (r : RS) : RS := ⟨numR r.z r.e, numE r.z r.e⟩
def RS.int (r : RS) (a b : Int) : RS := ⟨numR r.z r.e, intE r.z r.e a b⟩
def RS.bool (r : RS) : RS := ⟨boolR r.z r.e, boolE r.z r.e⟩
def RS.numV (r : RS) : Int := Go.Proofs.Ytbimbpmdiahhbaa.numV r.z r.e
def RS.intV (r : RS) (a b : Int) : Int := Go.Proofs.Ytbimbpmdiahhbaa.intV r.z r.e a b
def RS.boolV (r : RS) : Bool := Go.Proofs.Ytbimbpmdiahhbaa.boolV r.z r.e
def RS.nx (r : RS) : RS := r.int 0 1073741824
def RS.nV (r : RS) : Int := r.intV 0 1073741824
def rdLin (r : RS) : Lin := ⟨r.nV, r.nx.nV, r.nx.nx.nV, r.nx.nx.nx.numV⟩
def RS.lin (r : RS) : RS := r.nx.nx.nx.num
def RS.lins (r : RS) : Nat → RS
  | 0 => r
  | n + 1 => (r.lins n).lin
def rdLins (r : RS) : Nat → List Lin
  | 0 => []
  | n + 1 => rdLins r n ++ [rdLin (r.lins n)]
def RS.nets (r : RS) : Nat → RS
  | 0 => r
  | n + 1 => (r.nets n).num
def rdNets (r : RS) : Nat → List Int
  | 0 => []
  | n + 1 => rdNets r n ++ [(r.nets n).numV]
theorem rdLins_len (r : RS) (n : Nat) : (rdLins r n).length = n := by induction n with | zero => rfl | succ n ih => rw [rdLins, List.length_append, ih]; rfl
theorem rdNets_len (r : RS) (n : Nat) : (rdNets r n).length = n := by induction n with | zero => rfl | succ n ih => rw [rdNets, List.length_append, ih]; rfl
def RS.Good (r : RS) : Prop := Oct r.z ∧ r.z.length ≤ 9223372036854775000
theorem RS.Good.num {r : RS} (h : r.Good) : r.num.Good := ⟨numR_oct h.1, Nat.le_trans (numR_len _ _) h.2⟩
theorem RS.Good.int {r : RS} (h : r.Good) (a b : Int) : (r.int a b).Good := ⟨numR_oct h.1, Nat.le_trans (numR_len _ _) h.2⟩
theorem RS.Good.nx {r : RS} (h : r.Good) : r.nx.Good := h.int _ _
theorem RS.Good.bool {r : RS} (h : r.Good) : r.bool.Good := by
  unfold RS.bool boolR
  refine ⟨?_, ?_⟩ <;> dsimp only <;> split
  · exact h.1.drop 1
  · exact h.1
  · rw [List.length_drop]; exact Nat.le_trans (Nat.sub_le _ _) h.2
  · exact h.2
theorem RS.Good.lin {r : RS} (h : r.Good) : r.lin.Good := h.nx.nx.nx.num
theorem RS.Good.lins {r : RS} (h : r.Good) : ∀ n, (r.lins n).Good
  | 0 => h
  | n + 1 => (h.lins n).lin
theorem RS.Good.nets {r : RS} (h : r.Good) : ∀ n, (r.nets n).Good
  | 0 => h
  | n + 1 => (h.nets n).num
theorem RS.numV_fits (r : RS) : I64 r.numV := Go.Proofs.Ytbimbpmdiahhbaa.numV_fits _ _
theorem RS.intV_fits (r : RS) {a b : Int} (ha : a ≤ 0) (hb : 0 ≤ b) : a ≤ r.intV a b ∧ r.intV a b ≤ b := by
  unfold RS.intV Go.Proofs.Ytbimbpmdiahhbaa.intV outB
  split
  · omega
  · rename_i h; simp at h; omega
theorem RS.nV_fits (r : RS) : okN r.nV = true := okN_iff.2 (r.intV_fits (by decide) (by decide))
theorem RS.nV_64 (r : RS) : I64 r.nV := okN_64 r.nV_fits
/-- The parts of what is read behind the kind. -/
def R1 (r : RS) : RS := r.nx
def R7 (r : RS) : RS := r.nx.nx.nx.nx.nx.nx.nx
def R9 (r : RS) : RS := (R7 r).num.bool
def R10 (r : RS) : RS := (R9 r).int 0 1024
def nLs (r : RS) : Nat := ((R9 r).intV 0 1024).toNat
def R11 (r : RS) : RS := (R10 r).lins (nLs r)
def R12 (r : RS) : RS := (R11 r).int 0 8
def nNs (r : RS) : Nat := ((R11 r).intV 0 8).toNat
def R13 (r : RS) : RS := (R12 r).nets (nNs r)
theorem nLs_eq (r : RS) : (R9 r).intV 0 1024 = (nLs r : Nat) ∧ nLs r ≤ 1024 := by have := (R9 r).intV_fits (a := 0) (b := 1024) (by decide) (by decide); unfold nLs; omega
theorem nNs_eq (r : RS) : (R11 r).intV 0 8 = (nNs r : Nat) ∧ nNs r ≤ 8 := by have := (R11 r).intV_fits (a := 0) (b := 8) (by decide) (by decide); unfold nNs; omega
def rdAll (r : RS) : Msg := ⟨r.nV, r.nx.nV, r.nx.nx.nV, r.nx.nx.nx.nV, r.nx.nx.nx.nx.nV, r.nx.nx.nx.nx.nx.nV, r.nx.nx.nx.nx.nx.nx.nV, (R7 r).numV, (R7 r).num.boolV, rdLins (R10 r) (nLs r), rdNets (R12 r) (nNs r)⟩
def msg0 : Msg := ⟨0, 0, 0, 0, 0, 0, 0, 0, false, [], []⟩
def badK (r : RS) : Bool := decide (r.nx.e = 0) && !okK r.nV
def rdE (r : RS) : Int := if badK r then 110 else (R13 r).e
def rdM (r : RS) : Msg := if rdE r = 0 then rdAll r else msg0
def rdR (r : RS) : RS := if badK r then r.nx else R13 r
theorem R7_good {r : RS} (h : r.Good) : (R7 r).Good := h.nx.nx.nx.nx.nx.nx.nx
theorem R9_good {r : RS} (h : r.Good) : (R9 r).Good := (R7_good h).num.bool
theorem R10_good {r : RS} (h : r.Good) : (R10 r).Good := (R9_good h).int _ _
theorem R11_good {r : RS} (h : r.Good) : (R11 r).Good := (R10_good h).lins _
theorem R12_good {r : RS} (h : r.Good) : (R12 r).Good := (R11_good h).int _ _
theorem R13_good {r : RS} (h : r.Good) : (R13 r).Good := (R12_good h).nets _
theorem rdR_good {r : RS} (h : r.Good) : (rdR r).Good := by unfold rdR; split; exact h.nx; exact R13_good h
/-- What is written is read. -/
theorem num_w {z : Int} (h : I64 z) (ys : List Int) : (⟨numL z ++ ys, 0⟩ : RS).num = ⟨ys, 0⟩ ∧ (⟨numL z ++ ys, 0⟩ : RS).numV = z := by
  unfold RS.num RS.numV
  dsimp only
  rw [numE_of h.1 h.2, numR_of h.1 h.2, numV_of h.1 h.2]
  exact ⟨rfl, rfl⟩
theorem int_w {z a b : Int} (h : I64 z) (ha : a ≤ z) (hb : z ≤ b) (ys : List Int) : (⟨numL z ++ ys, 0⟩ : RS).int a b = ⟨ys, 0⟩ ∧ (⟨numL z ++ ys, 0⟩ : RS).intV a b = z := by
  unfold RS.int RS.intV
  dsimp only
  have ho : outB z a b = false := by simp [outB]; omega
  rw [intE_of h.1 h.2, numR_of h.1 h.2, intV_of h.1 h.2, ho]
  exact ⟨rfl, rfl⟩
theorem nx_w {z : Int} (h : okN z = true) (ys : List Int) : (⟨numL z ++ ys, 0⟩ : RS).nx = ⟨ys, 0⟩ ∧ (⟨numL z ++ ys, 0⟩ : RS).nV = z := int_w (okN_64 h) (okN_iff.1 h).1 (okN_iff.1 h).2 ys
theorem bool_w (t : Bool) (ys : List Int) : (⟨boL t ++ ys, 0⟩ : RS).bool = ⟨ys, 0⟩ ∧ (⟨boL t ++ ys, 0⟩ : RS).boolV = t := by
  have h1 : takeE (boL t ++ ys) 0 1 = 0 := by simp [takeE, boL]
  unfold RS.bool RS.boolV boolR boolE Go.Proofs.Ytbimbpmdiahhbaa.boolV
  dsimp only
  rw [if_pos h1, if_pos h1, if_pos h1]
  cases t <;> exact ⟨rfl, rfl⟩
theorem lin_w {x : Lin} (h : x.ok = true) (ha : I64 x.a) (ys : List Int) : (⟨linL x ++ ys, 0⟩ : RS).lin = ⟨ys, 0⟩ ∧ rdLin ⟨linL x ++ ys, 0⟩ = x := by
  have h1 : okN x.s = true := by simp [Lin.ok] at h; exact h.1
  have h2 : okN x.n = true := by simp [Lin.ok] at h; exact h.2.1
  have h3 : okN x.b = true := by simp [Lin.ok] at h; exact h.2.2
  unfold RS.lin rdLin linL
  simp only [List.append_assoc]
  rw [(nx_w h1 _).1, (nx_w h1 _).2, (nx_w h2 _).1, (nx_w h2 _).2, (nx_w h3 _).1, (nx_w h3 _).2, (num_w ha _).1, (num_w ha _).2]
  exact ⟨rfl, rfl⟩
theorem lins_w : ∀ (n : Nat) (xs : List Lin), xs.length = n → (∀ x ∈ xs, x.ok = true) → (∀ x ∈ xs, I64 x.a) → ∀ ys, (⟨xs.flatMap linL ++ ys, 0⟩ : RS).lins n = ⟨ys, 0⟩ ∧ rdLins ⟨xs.flatMap linL ++ ys, 0⟩ n = xs
  | 0, xs, h, _, _, ys => by
    have : xs = [] := List.length_eq_zero_iff.1 h
    subst this
    exact ⟨rfl, rfl⟩
  | n + 1, xs, h, h1, h2, ys => by
    have hne : xs ≠ [] := by intro h0; subst h0; cases h
    have hsp := (List.dropLast_concat_getLast hne).symm
    generalize hp : xs.dropLast = ps at hsp
    generalize hz : xs.getLast hne = z at hsp
    clear hp hz
    subst hsp
    have hl : ps.length = n := by simpa using h
    obtain ⟨i1, i2⟩ := lins_w n ps hl (fun x hx => h1 x (List.mem_append_left _ hx)) (fun x hx => h2 x (List.mem_append_left _ hx)) (linL z ++ ys)
    have e : (ps ++ [z]).flatMap linL ++ ys = ps.flatMap linL ++ (linL z ++ ys) := by simp
    obtain ⟨l1, l2⟩ := lin_w (h1 z (by simp)) (h2 z (by simp)) ys
    rw [e, RS.lins, rdLins, i1, i2, l1, l2]
    exact ⟨rfl, rfl⟩
theorem nets_w : ∀ (n : Nat) (xs : List Int), xs.length = n → (∀ x ∈ xs, I64 x) → ∀ ys, (⟨xs.flatMap numL ++ ys, 0⟩ : RS).nets n = ⟨ys, 0⟩ ∧ rdNets ⟨xs.flatMap numL ++ ys, 0⟩ n = xs
  | 0, xs, h, _, ys => by
    have : xs = [] := List.length_eq_zero_iff.1 h
    subst this
    exact ⟨rfl, rfl⟩
  | n + 1, xs, h, h2, ys => by
    have hne : xs ≠ [] := by intro h0; subst h0; cases h
    have hsp := (List.dropLast_concat_getLast hne).symm
    generalize hp : xs.dropLast = ps at hsp
    generalize hz : xs.getLast hne = z at hsp
    clear hp hz
    subst hsp
    have hl : ps.length = n := by simpa using h
    obtain ⟨i1, i2⟩ := nets_w n ps hl (fun x hx => h2 x (List.mem_append_left _ hx)) (numL z ++ ys)
    have e : (ps ++ [z]).flatMap numL ++ ys = ps.flatMap numL ++ (numL z ++ ys) := by simp
    obtain ⟨l1, l2⟩ := num_w (h2 z (by simp)) ys
    rw [e, RS.nets, rdNets, i1, i2, l1, l2]
    exact ⟨rfl, rfl⟩
/-- The state from which the six numbers, .. are read: each of them as it was written. -/
theorem msg_w {m : Msg} (hE : msgE m = 0) (hF : m.Fit) (ys : List Int) : rdE ⟨msgL m ++ ys, 0⟩ = 0 ∧ rdM ⟨msgL m ++ ys, 0⟩ = m ∧ rdR ⟨msgL m ++ ys, 0⟩ = ⟨ys, 0⟩ := by
  obtain ⟨hk, hl, hn, hnums, hls⟩ := msgE_ok hE
  obtain ⟨⟨_, _, _, _, _, _, _, ha⟩, hFl, hFn⟩ := hF
  simp only [Msg.numsOk, Bool.and_eq_true] at hnums
  obtain ⟨h1, h2, h3, h4, h5, h6⟩ := hnums
  have h0 : okN m.k = true := by have := okK_iff.1 hk; exact okN_iff.2 (by omega)
  have e0 : (⟨msgL m ++ ys, 0⟩ : RS).nx = ⟨numL m.s ++ (numL m.n ++ (numL m.b ++ (numL m.c ++ (numL m.r ++ (numL m.y ++ (msgL2 m ++ ys)))))), 0⟩ ∧ (⟨msgL m ++ ys, 0⟩ : RS).nV = m.k := by
    unfold msgL
    simp only [List.append_assoc]
    exact nx_w h0 _
  generalize hR : (⟨msgL m ++ ys, 0⟩ : RS) = R at *
  obtain ⟨e0, v0⟩ := e0
  have hbad : badK R = false := by unfold badK; rw [e0, v0, hk]; rfl
  obtain ⟨e1, v1⟩ := nx_w h1 (numL m.n ++ (numL m.b ++ (numL m.c ++ (numL m.r ++ (numL m.y ++ (msgL2 m ++ ys))))))
  obtain ⟨e2, v2⟩ := nx_w h2 (numL m.b ++ (numL m.c ++ (numL m.r ++ (numL m.y ++ (msgL2 m ++ ys)))))
  obtain ⟨e3, v3⟩ := nx_w h3 (numL m.c ++ (numL m.r ++ (numL m.y ++ (msgL2 m ++ ys))))
  obtain ⟨e4, v4⟩ := nx_w h4 (numL m.r ++ (numL m.y ++ (msgL2 m ++ ys)))
  obtain ⟨e5, v5⟩ := nx_w h5 (numL m.y ++ (msgL2 m ++ ys))
  obtain ⟨e6, v6⟩ := nx_w h6 (msgL2 m ++ ys)
  have e7 : R7 R = ⟨msgL2 m ++ ys, 0⟩ := by unfold R7; rw [e0, e1, e2, e3, e4, e5, e6]
  have m2 : msgL2 m ++ ys = numL m.a ++ (boL m.t ++ (msgL3 m ++ ys)) := by unfold msgL2; simp only [List.append_assoc]
  obtain ⟨e8, v8⟩ := num_w ha (boL m.t ++ (msgL3 m ++ ys))
  obtain ⟨e9, v9⟩ := bool_w m.t (msgL3 m ++ ys)
  have m3 : msgL3 m ++ ys = numL m.ls.length ++ (m.ls.flatMap linL ++ (numL m.ns.length ++ (m.ns.flatMap numL ++ ys))) := by unfold msgL3; simp only [List.append_assoc]
  have q9 : R9 R = ⟨numL m.ls.length ++ (m.ls.flatMap linL ++ (numL m.ns.length ++ (m.ns.flatMap numL ++ ys))), 0⟩ := by unfold R9; rw [e7, m2, e8, e9, m3]
  obtain ⟨e10, v10⟩ := int_w (z := (m.ls.length : Int)) (a := 0) (b := 1024) (by unfold I64; omega) (by omega) (by omega) (m.ls.flatMap linL ++ (numL m.ns.length ++ (m.ns.flatMap numL ++ ys)))
  have q10 : R10 R = ⟨m.ls.flatMap linL ++ (numL m.ns.length ++ (m.ns.flatMap numL ++ ys)), 0⟩ := by unfold R10; rw [q9, e10]
  have qn : nLs R = m.ls.length := by unfold nLs; rw [q9, v10]; omega
  obtain ⟨e11, v11⟩ := lins_w m.ls.length m.ls rfl (fun x hx => List.all_eq_true.1 hls x hx) (fun x hx => (hFl x hx).2.2.2) (numL m.ns.length ++ (m.ns.flatMap numL ++ ys))
  have q11 : R11 R = ⟨numL m.ns.length ++ (m.ns.flatMap numL ++ ys), 0⟩ := by unfold R11; rw [q10, qn, e11]
  obtain ⟨e12, v12⟩ := int_w (z := (m.ns.length : Int)) (a := 0) (b := 8) (by unfold I64; omega) (by omega) (by omega) (m.ns.flatMap numL ++ ys)
  have q12 : R12 R = ⟨m.ns.flatMap numL ++ ys, 0⟩ := by unfold R12; rw [q11, e12]
  have qm : nNs R = m.ns.length := by unfold nNs; rw [q11, v12]; omega
  obtain ⟨e13, v13⟩ := nets_w m.ns.length m.ns rfl hFn ys
  have q13 : R13 R = ⟨ys, 0⟩ := by unfold R13; rw [q12, qm, e13]
  have hE2 : rdE R = 0 := by unfold rdE; rw [hbad, q13]; rfl
  refine ⟨hE2, ?_, ?_⟩
  · unfold rdM
    rw [if_pos hE2]
    unfold rdAll
    rw [v0, e0, v1, e1, v2, e2, v3, e3, v4, e4, v5, e5, v6, e7, m2, v8, e8, v9, q10, qn, v11, q12, qm, v13]
  · unfold rdR; rw [hbad, q13]; rfl
end Go.Proofs.Ytbimbpmdiahhbaa
