/- elim.Look, alike by contract. -/
import Derived.Test.YtillckkohdjkbaaElimD
namespace Go.Proofs.Ytillckkohdjkbaa
open Go.RowKit
set_option linter.unusedSimpArgs false in
set_option maxHeartbeats 4000000 in
set_option maxRecDepth 100000 in
theorem look1_any (w : World) (me : Int) (pi : Option Addr) (ni ci : Nat) (po : Option Addr) (no co : Nat) (g1 g2 g3 : Nat) (s b c : Int) (xs : List Itm) (hr : TRow encI w (.slice pi ni ci) xs) (hl : xs.length = ni) (hn : xs.length ≤ 2000)
    (h1 : w.cell? ⟨g1, 0, none⟩ = some (.int .i64 s)) (h2 : w.cell? ⟨g2, 0, none⟩ = some (.int .i64 b)) (h3 : w.cell? ⟨g3, 0, none⟩ = some (.int .i64 c)) :
    Calls Try.prog 15 #[bookV me (.slice pi ni ci) (.slice po no co), .pointer (some ⟨g1, 0, none⟩), .pointer (some ⟨g2, 0, none⟩), .pointer (some ⟨g3, 0, none⟩)] w fun e w' => ∃ v', e = .returned v' ∧ OwnT encI w' w.heap.size 39 v' (soldL s b c xs) ∧ Below w.heap.size w w' := by
  have HB0 := Lib.hid (oneB w (.cells #[.int .i64 me, .slice pi ni ci, .slice po no co] 26))
  have HS := Lib.hid (sold_any _ me pi ni ci po no co s b c xs (hr.kept HB0.out) hl hn)
  have d1 := (HB0.out.cell (p := ⟨g1, 0, none⟩) (World.block_lt_of_cell? w _ h1)).trans h1
  have d2 := (HB0.out.cell (p := ⟨g2, 0, none⟩) (World.block_lt_of_cell? w _ h2)).trans h2
  have d3 := (HB0.out.cell (p := ⟨g3, 0, none⟩) (World.block_lt_of_cell? w _ h3)).trans h3
  clear hr hl hn h1 h2 h3
  unfold bookV at *
  go_enter Try.func15, Try.ntmps15
  go_wp2_with fail
  have HZ : Hid (w.heap.size ≤ (w.alloc (.cells #[.int .i64 me, .slice pi ni ci, .slice po no co] 26)).heap.size) := HB0.out.size
  generalize w.alloc (.cells #[.int .i64 me, .slice pi ni ci, .slice po no co] 26) = W0 at *
  refine HS.out.mono ?_
  rintro y w1 ⟨v1, rfl, ho1, hb1⟩
  have HO := Lib.hid (ho1.less HZ.out)
  have HB := Lib.hid (HB0.out.trans (hb1.mono HB0.out.size))
  obtain ⟨pv, cv, hv⟩ := ho1.form
  generalize (soldL s b c xs).length = nl at hv
  subst hv
  clear ho1 hb1 HS
  go_wp2_with fail
  go_ret
  exact ⟨_, rfl, HO.out, HB.out⟩
/-- What Look answers. -/
def pairV (m1 m2 h p : Int) (al : Bool) : Value := .agg #[.int .i64 m1, .int .i64 m2, .int .i64 h, .int .i64 p, .bool al]
def alikeB (m1 m2 cur : Int) (xs ys : List Itm) : Bool := decide (soldL m1 m2 cur xs = soldL m1 m2 cur ys)
def lookV (m1 m2 cur : Int) (xs ys : List Itm) : Value := pairV m1 m2 (amtS (soldL m1 m2 cur xs)) (amtS (soldL m1 m2 cur ys)) (alikeB m1 m2 cur xs ys)
set_option linter.unusedSimpArgs false in
set_option maxHeartbeats 4000000 in
set_option maxRecDepth 100000 in
theorem look_any (w : World) (m1 m2 cur : Int) (p1 q1 p2 q2 : Option Addr) (n1 c1 a1 b1 n2 c2 a2 b2 : Nat) (xs ys : List Itm) (hx : TRow encI w (.slice p1 n1 c1) xs) (hy : TRow encI w (.slice p2 n2 c2) ys) (hlx : xs.length = n1) (hly : ys.length = n2) (hnx : xs.length ≤ 2000) (hny : ys.length ≤ 2000) (hox : Okx xs) (hoy : Okx ys) :
    Calls Try.prog 7 #[bookV m1 (.slice p1 n1 c1) (.slice q1 a1 b1), bookV m2 (.slice p2 n2 c2) (.slice q2 a2 b2), .int .i64 cur] w fun e w' => e = .returned (.tuple #[lookV m1 m2 cur xs ys, .int .i64 0]) ∧ Below w.heap.size w w' := by
  obtain ⟨lx, hlx2⟩ : ∃ lx, soldL m1 m2 cur xs = lx := ⟨_, rfl⟩
  obtain ⟨ly, hly2⟩ : ∃ ly, soldL m1 m2 cur ys = ly := ⟨_, rfl⟩
  have HV : Hid (lookV m1 m2 cur xs ys = pairV m1 m2 (amtS lx) (amtS ly) (decide (lx = ly))) := by show _ = _; unfold lookV alikeB; rw [hlx2, hly2]
  have hlxn : lx.length ≤ 2000 := by rw [← hlx2]; exact Nat.le_trans (soldL_len _ _ _ _) hnx
  have hlyn : ly.length ≤ 2000 := by rw [← hly2]; exact Nat.le_trans (soldL_len _ _ _ _) hny
  have hlxo : Okx lx := by rw [← hlx2]; exact soldL_ok hox
  have hlyo : Okx ly := by rw [← hly2]; exact soldL_ok hoy
  have hmf : ∀ (fn : Fn) (first cap : Array Value) (w : World), (Instr.makeFunc fn first cap).run Try.prog w = .ok (.func fn first cap) w := fun _ _ _ _ => rfl
  have HCX := Lib.hid (fun W (h : Below w.heap.size w W) (g1 g2 g3 : Nat) (h1 : W.cell? ⟨g1, 0, none⟩ = some (.int .i64 m1)) (h2 : W.cell? ⟨g2, 0, none⟩ = some (.int .i64 m2)) (h3 : W.cell? ⟨g3, 0, none⟩ = some (.int .i64 cur)) => look1_any W m1 p1 n1 c1 q1 a1 b1 g1 g2 g3 m1 m2 cur xs (hx.kept h) hlx hnx h1 h2 h3)
  have HCY := Lib.hid (fun W (h : Below w.heap.size w W) (g1 g2 g3 : Nat) (h1 : W.cell? ⟨g1, 0, none⟩ = some (.int .i64 m1)) (h2 : W.cell? ⟨g2, 0, none⟩ = some (.int .i64 m2)) (h3 : W.cell? ⟨g3, 0, none⟩ = some (.int .i64 cur)) => look1_any W m2 p2 n2 c2 q2 a2 b2 g1 g2 g3 m1 m2 cur ys (hy.kept h) hly hny h1 h2 h3)
  rw [hlx2] at HCX
  rw [hly2] at HCY
  have HTX := Lib.hid (fun W v (h : TRow encI W v lx) => total_any W v lx h hlxn hlxo)
  have HTY := Lib.hid (fun W v (h : TRow encI W v ly) => total_any W v ly h hlyn hlyo)
  have HEQ := Lib.hid (fun W v u (h : TRow encI W v lx) (k : TRow encI W u ly) => eqI_any W v u lx ly h k (by omega))
  clear hx hy hlx hly hnx hny hox hoy hlxo hlyo hlx2 hly2
  obtain ⟨AX, hAX⟩ : ∃ AX, amtS lx = AX := ⟨_, rfl⟩
  obtain ⟨AY, hAY⟩ : ∃ AY, amtS ly = AY := ⟨_, rfl⟩
  obtain ⟨AL, hAL⟩ : ∃ AL, decide (lx = ly) = AL := ⟨_, rfl⟩
  rw [hAX, hAY, hAL] at HV
  rw [hAX] at HTX
  rw [hAY] at HTY
  rw [hAL] at HEQ
  clear hAX hAY hAL
  unfold bookV at *
  go_enter Try.func7, Try.ntmps7
  go_wp2_with fail
  generalize hW1 : (((w.alloc (.cells #[.int .i64 m1, .slice p1 n1 c1, .slice q1 a1 b1] 26)).alloc (.cells #[.int .i64 m2, .slice p2 n2 c2, .slice q2 a2 b2] 26)).alloc (.cells #[.int .i64 cur] 3)).alloc (.cells #[.int .i64 0, .int .i64 0, .int .i64 0, .int .i64 0, .bool false] 30) = W1
  have HB1 : Hid (Below w.heap.size w W1) := by show Below _ _ _; rw [← hW1]; exact (((oneB w _).alloc (by simp) _).alloc (by simp <;> omega) _).alloc (by simp <;> omega) _
  have HK1 : Hid (Blk W1 w.heap.size #[.int .i64 m1, .slice p1 n1 c1, .slice q1 a1 b1] 26) := by show Blk _ _ _ _; rw [← hW1]; exact (((Blk.new w _ _).alloc _).alloc _).alloc _
  have HK2 : Hid (Blk W1 (w.heap.size + 1) #[.int .i64 m2, .slice p2 n2 c2, .slice q2 a2 b2] 26) := by show Blk _ _ _ _; rw [← hW1]; exact ((Blk.new' _ _ _ (by simp)).alloc _).alloc _
  have HK3 : Hid (Blk W1 (w.heap.size + 1 + 1) #[.int .i64 cur] 3) := by show Blk _ _ _ _; rw [← hW1]; exact (Blk.new' _ _ _ (by simp)).alloc _
  have HK4 : Hid (Blk W1 (w.heap.size + 1 + 1 + 1) #[.int .i64 0, .int .i64 0, .int .i64 0, .int .i64 0, .bool false] 30) := by show Blk _ _ _ _; rw [← hW1]; exact Blk.new' _ _ _ (by simp)
  clear hW1
  have hS1 : W1.drew.cell? ⟨w.heap.size, 0, none⟩ = some (.int .i64 m1) ∧ W1.drew.cell? ⟨w.heap.size, 1, none⟩ = some (.slice p1 n1 c1) ∧ W1.drew.cell? ⟨w.heap.size, 2, none⟩ = some (.slice q1 a1 b1) ∧ W1.drew.cell? ⟨(w.heap.size + 1), 0, none⟩ = some (.int .i64 m2) ∧ W1.drew.cell? ⟨(w.heap.size + 1), 1, none⟩ = some (.slice p2 n2 c2) ∧ W1.drew.cell? ⟨(w.heap.size + 1), 2, none⟩ = some (.slice q2 a2 b2) := ⟨HK1.out.cell 0, HK1.out.cell 1, HK1.out.cell 2, HK2.out.cell 0, HK2.out.cell 1, HK2.out.cell 2⟩
  have HS : Hid (∀ w', Below W1.heap.size W1 w' → w'.cell? ⟨w.heap.size, 0, none⟩ = some (.int .i64 m1) ∧ w'.cell? ⟨w.heap.size, 1, none⟩ = some (.slice p1 n1 c1) ∧ w'.cell? ⟨w.heap.size, 2, none⟩ = some (.slice q1 a1 b1) ∧ w'.cell? ⟨(w.heap.size + 1), 0, none⟩ = some (.int .i64 m2) ∧ w'.cell? ⟨(w.heap.size + 1), 1, none⟩ = some (.slice p2 n2 c2) ∧ w'.cell? ⟨(w.heap.size + 1), 2, none⟩ = some (.slice q2 a2 b2)) := fun w' h => ⟨(HK1.out.below h HK1.out.lt).cell 0, (HK1.out.below h HK1.out.lt).cell 1, (HK1.out.below h HK1.out.lt).cell 2, (HK2.out.below h HK2.out.lt).cell 0, (HK2.out.below h HK2.out.lt).cell 1, (HK2.out.below h HK2.out.lt).cell 2⟩
  refine wp_region_held_drew (S := fun w' => w'.cell? ⟨w.heap.size, 0, none⟩ = some (.int .i64 m1) ∧ w'.cell? ⟨w.heap.size, 1, none⟩ = some (.slice p1 n1 c1) ∧ w'.cell? ⟨w.heap.size, 2, none⟩ = some (.slice q1 a1 b1) ∧ w'.cell? ⟨(w.heap.size + 1), 0, none⟩ = some (.int .i64 m2) ∧ w'.cell? ⟨(w.heap.size + 1), 1, none⟩ = some (.slice p2 n2 c2) ∧ w'.cell? ⟨(w.heap.size + 1), 2, none⟩ = some (.slice q2 a2 b2)) (by kernel_rfl) hS1 (fun hS0 => ?_)
  refine wpAnyH_take (i := 0) (v := ?_) rfl (by kernel_rfl) (by kernel_rfl) (by kernel_rfl) (fun _ _ _ h => h) (Or.inl ⟨by kernel_rfl, ?_⟩) (by first | assumption | trivial) ?_
  rotate_left
  · intro w hSw
    try dsimp only at hSw
    first | (go_simp; done) | (go_simp; with_reducible rfl)
  try simp only [Act.put, List.getElem_toArray, List.getElem_cons_succ, List.getElem_cons_zero, List.setIfInBounds_toArray, List.set_cons_zero, List.set_cons_succ]
  refine wpAnyH_take (i := 1) (v := ?_) rfl (by kernel_rfl) (by kernel_rfl) (by kernel_rfl) (fun _ _ _ h => h) (Or.inl ⟨by kernel_rfl, ?_⟩) (by first | assumption | trivial) ?_
  rotate_left
  · intro w hSw
    try dsimp only at hSw
    first | (go_simp; done) | (go_simp; with_reducible rfl)
  try simp only [Act.put, List.getElem_toArray, List.getElem_cons_succ, List.getElem_cons_zero, List.setIfInBounds_toArray, List.set_cons_zero, List.set_cons_succ]
  refine wpAnyH_take (i := 3) (v := ?_) rfl (by kernel_rfl) (by kernel_rfl) (by kernel_rfl) (fun _ _ _ h => h) (Or.inl ⟨by kernel_rfl, ?_⟩) (by first | assumption | trivial) ?_
  rotate_left
  · intro w hSw
    try dsimp only at hSw
    first | (go_simp; done) | (go_simp; with_reducible rfl)
  try simp only [Act.put, List.getElem_toArray, List.getElem_cons_succ, List.getElem_cons_zero, List.setIfInBounds_toArray, List.set_cons_zero, List.set_cons_succ]
  refine wpAnyH_take (i := 4) (v := ?_) rfl (by kernel_rfl) (by kernel_rfl) (by kernel_rfl) (fun _ _ _ h => h) (Or.inl ⟨by kernel_rfl, ?_⟩) (by first | assumption | trivial) ?_
  rotate_left
  · intro w hSw
    try dsimp only at hSw
    first | (go_simp; done) | (go_simp; with_reducible rfl)
  try simp only [Act.put, List.getElem_toArray, List.getElem_cons_succ, List.getElem_cons_zero, List.setIfInBounds_toArray, List.set_cons_zero, List.set_cons_succ]
  refine wpAnyH_ready (rs := [2]) (by kernel_rfl) (by simp) ?_
  refine AllReadyH.cons rfl (fun K hK => ?_) AllReadyH.nil
  go_simp
  go_at_call 15
  refine (HCX.out W1.drew HB1.out.drew _ _ _ (HK1.out.cell 0) (HK2.out.cell 0) (HK3.out.cell 0)).mono ?_
  rintro y w2 ⟨v2, rfl, ho2, hb2⟩
  have HB2X := Lib.hid ((Below.refl W1.heap.size W1).drew.trans (hb2.mono (Nat.le_refl _)))
  have HB2 := Lib.hid (HB1.out.trans (HB2X.out.mono HB1.out.size))
  have HO2 := Lib.hid ho2.row
  obtain ⟨pv2, cv2, hv2⟩ := ho2.form
  generalize lx.length = nx at hv2
  subst hv2
  clear hb2 ho2
  try go_wp2_with fail
  refine hK.out _ _ (HS.out w2 HB2X.out) (fun hS => ?_)
  clear hK K
  try simp only [Act.put, List.getElem_toArray, List.getElem_cons_succ, List.getElem_cons_zero, List.setIfInBounds_toArray, List.set_cons_zero, List.set_cons_succ]
  refine wpAnyH_ready (rs := [5]) (by kernel_rfl) (by simp) ?_
  refine AllReadyH.cons rfl (fun K hK => ?_) AllReadyH.nil
  go_simp
  go_at_call 15
  refine (HCY.out w2 HB2.out _ _ _ ((HK1.out.below HB2X.out HK1.out.lt).cell 0) ((HK2.out.below HB2X.out HK2.out.lt).cell 0) ((HK3.out.below HB2X.out HK3.out.lt).cell 0)).mono ?_
  rintro y w3 ⟨v3, rfl, ho3, hb3⟩
  have HB3X := Lib.hid (HB2X.out.trans (hb3.mono HB2X.out.size))
  have HB3 := Lib.hid (HB1.out.trans (HB3X.out.mono HB1.out.size))
  have HO3 := Lib.hid (HO2.out.kept hb3)
  have HP3 := Lib.hid ho3.row
  obtain ⟨pv3, cv3, hv3⟩ := ho3.form
  generalize ly.length = ny at hv3
  subst hv3
  clear hb3 ho3 HO2
  try go_wp2_with fail
  refine hK.out _ _ (HS.out w3 HB3X.out) (fun hS => ?_)
  clear hK K
  try simp only [Act.put, List.getElem_toArray, List.getElem_cons_succ, List.getElem_cons_zero, List.setIfInBounds_toArray, List.set_cons_zero, List.set_cons_succ]
  refine wpAnyH_take (i := 6) (v := ?_) rfl (by kernel_rfl) (by kernel_rfl) (by kernel_rfl) (fun _ _ _ h => h) (Or.inl ⟨by kernel_rfl, ?_⟩) (by first | assumption | trivial) ?_
  rotate_left
  · intro w hSw
    try dsimp only at hSw
    first | (go_simp; done) | (go_simp; with_reducible rfl)
  try simp only [Act.put, List.getElem_toArray, List.getElem_cons_succ, List.getElem_cons_zero, List.setIfInBounds_toArray, List.set_cons_zero, List.set_cons_succ]
  refine wpAnyH_take (i := 7) (v := ?_) rfl (by kernel_rfl) (by kernel_rfl) (by kernel_rfl) (fun _ _ _ h => h) (Or.inl ⟨by kernel_rfl, ?_⟩) (by first | assumption | trivial) ?_
  rotate_left
  · intro w hSw
    try dsimp only at hSw
    first | (go_simp; done) | (go_simp; with_reducible rfl)
  try simp only [Act.put, List.getElem_toArray, List.getElem_cons_succ, List.getElem_cons_zero, List.setIfInBounds_toArray, List.set_cons_zero, List.set_cons_succ]
  refine wpAnyH_done (by kernel_rfl) ?_ _
  clear HCX HCY HS hS1 hS0
  go_wp2_with fail
  refine (HTX.out w3 _ HO3.out).mono ?_
  rintro y w4 ⟨rfl, hb4⟩
  have HB4X := Lib.hid (HB3X.out.trans (hb4.mono HB3X.out.size))
  have HO4 := Lib.hid (HO3.out.kept hb4)
  have HP4 := Lib.hid (HP3.out.kept hb4)
  clear hb4 HO3 HP3 HTX
  go_wp2_with fail
  refine (HTY.out w4 _ HP4.out).mono ?_
  rintro y w5 ⟨rfl, hb5⟩
  have HB5X := Lib.hid (HB4X.out.trans (hb5.mono HB4X.out.size))
  have HO5 := Lib.hid (HO4.out.kept hb5)
  have HP5 := Lib.hid (HP4.out.kept hb5)
  clear hb5 HO4 HP4 HTY
  have HE5D := Lib.hid (HEQ.out w5.drew _ _ (HO5.out.kept (Below.refl w5.heap.size w5).drew) (HP5.out.kept (Below.refl w5.heap.size w5).drew))
  have HK15 := Lib.hid (HK1.out.below HB5X.out HK1.out.lt)
  have HK25 := Lib.hid (HK2.out.below HB5X.out HK2.out.lt)
  have HK45 := Lib.hid (HK4.out.below HB5X.out HK4.out.lt)
  have HB5 := Lib.hid (HB1.out.trans (HB5X.out.mono HB1.out.size))
  have HGL : Hid (w.heap.size ≤ w.heap.size + 1 + 1 + 1) := by show _ ≤ _; omega
  clear HK1 HK2 HK3 HK4 HB1 HB2 HB3 HB2X HB3X HB4X HB5X HO5 HP5 HEQ
  go_wp2_with fail
  have hS2 : w5.drew.cell? ⟨w.heap.size, 0, none⟩ = some (.int .i64 m1) ∧ w5.drew.cell? ⟨w.heap.size + 1, 0, none⟩ = some (.int .i64 m2) := ⟨HK15.out.cell 0, HK25.out.cell 0⟩
  refine wp_region_held_drew (S := fun w' => w'.cell? ⟨w.heap.size, 0, none⟩ = some (.int .i64 m1) ∧ w'.cell? ⟨w.heap.size + 1, 0, none⟩ = some (.int .i64 m2)) (by kernel_rfl) hS2 (fun hS0 => ?_)
  refine wpAnyH_take (i := 0) (v := ?_) rfl (by kernel_rfl) (by kernel_rfl) (by kernel_rfl) (fun _ _ _ h => h) (Or.inl ⟨by kernel_rfl, ?_⟩) (by first | assumption | trivial) ?_
  rotate_left
  · intro w hSw
    try dsimp only at hSw
    first | (go_simp; done) | (go_simp; with_reducible rfl)
  try simp only [Act.put, List.getElem_toArray, List.getElem_cons_succ, List.getElem_cons_zero, List.setIfInBounds_toArray, List.set_cons_zero, List.set_cons_succ]
  refine wpAnyH_take (i := 1) (v := ?_) rfl (by kernel_rfl) (by kernel_rfl) (by kernel_rfl) (fun _ _ _ h => h) (Or.inl ⟨by kernel_rfl, ?_⟩) (by first | assumption | trivial) ?_
  rotate_left
  · intro w hSw
    try dsimp only at hSw
    first | (go_simp; done) | (go_simp; with_reducible rfl)
  try simp only [Act.put, List.getElem_toArray, List.getElem_cons_succ, List.getElem_cons_zero, List.setIfInBounds_toArray, List.set_cons_zero, List.set_cons_succ]
  refine wpAnyH_take (i := 2) (v := ?_) rfl (by kernel_rfl) (by kernel_rfl) (by kernel_rfl) (fun _ _ _ h => h) (Or.inl ⟨by kernel_rfl, ?_⟩) (by first | assumption | trivial) ?_
  rotate_left
  · intro w hSw
    try dsimp only at hSw
    first | (go_simp; done) | (go_simp; with_reducible rfl)
  try simp only [Act.put, List.getElem_toArray, List.getElem_cons_succ, List.getElem_cons_zero, List.setIfInBounds_toArray, List.set_cons_zero, List.set_cons_succ]
  refine wpAnyH_take (i := 3) (v := ?_) rfl (by kernel_rfl) (by kernel_rfl) (by kernel_rfl) (fun _ _ _ h => h) (Or.inl ⟨by kernel_rfl, ?_⟩) (by first | assumption | trivial) ?_
  rotate_left
  · intro w hSw
    try dsimp only at hSw
    first | (go_simp; done) | (go_simp; with_reducible rfl)
  try simp only [Act.put, List.getElem_toArray, List.getElem_cons_succ, List.getElem_cons_zero, List.setIfInBounds_toArray, List.set_cons_zero, List.set_cons_succ]
  refine wpAnyH_take (i := 4) (v := ?_) rfl (by kernel_rfl) (by kernel_rfl) (by kernel_rfl) (fun _ _ _ h => h) (Or.inl ⟨by kernel_rfl, ?_⟩) (by first | assumption | trivial) ?_
  rotate_left
  · intro w hSw
    try dsimp only at hSw
    first | (go_simp; done) | (go_simp; with_reducible rfl)
  try simp only [Act.put, List.getElem_toArray, List.getElem_cons_succ, List.getElem_cons_zero, List.setIfInBounds_toArray, List.set_cons_zero, List.set_cons_succ]
  refine wpAnyH_take (i := 5) (v := ?_) rfl (by kernel_rfl) (by kernel_rfl) (by kernel_rfl) (fun _ _ _ h => h) (Or.inl ⟨by kernel_rfl, ?_⟩) (by first | assumption | trivial) ?_
  rotate_left
  · intro w hSw
    try dsimp only at hSw
    first | (go_simp; done) | (go_simp; with_reducible rfl)
  try simp only [Act.put, List.getElem_toArray, List.getElem_cons_succ, List.getElem_cons_zero, List.setIfInBounds_toArray, List.set_cons_zero, List.set_cons_succ]
  refine wpAnyH_take (i := 6) (v := ?_) rfl (by kernel_rfl) (by kernel_rfl) (by kernel_rfl) (fun _ _ _ h => h) (Or.inl ⟨by kernel_rfl, ?_⟩) (by first | assumption | trivial) ?_
  rotate_left
  · intro w hSw
    try dsimp only at hSw
    first | (go_simp; done) | (go_simp; with_reducible rfl)
  try simp only [Act.put, List.getElem_toArray, List.getElem_cons_succ, List.getElem_cons_zero, List.setIfInBounds_toArray, List.set_cons_zero, List.set_cons_succ]
  refine wpAnyH_take (i := 7) (v := ?_) rfl (by kernel_rfl) (by kernel_rfl) (by kernel_rfl) (fun _ _ _ h => h) (Or.inl ⟨by kernel_rfl, ?_⟩) (by first | assumption | trivial) ?_
  rotate_left
  · intro w hSw
    try dsimp only at hSw
    first | (go_simp; done) | (go_simp; with_reducible rfl)
  try simp only [Act.put, List.getElem_toArray, List.getElem_cons_succ, List.getElem_cons_zero, List.setIfInBounds_toArray, List.set_cons_zero, List.set_cons_succ]
  refine wpAnyH_ready (rs := [8]) (by kernel_rfl) (by simp) ?_
  refine AllReadyH.cons rfl (fun K hK => ?_) AllReadyH.nil
  go_simp
  go_at_call 18
  refine (HE5D.out).mono ?_
  rintro y w6 ⟨rfl, hb6⟩
  have HB6X := Lib.hid ((Below.refl w5.heap.size w5).drew.trans (hb6.mono (Nat.le_refl _)))
  have HK16 := Lib.hid (HK15.out.below HB6X.out HK15.out.lt)
  have HK26 := Lib.hid (HK25.out.below HB6X.out HK25.out.lt)
  have HK46 := Lib.hid (HK45.out.below HB6X.out HK45.out.lt)
  have HB6 := Lib.hid (HB5.out.trans (HB6X.out.mono HB5.out.size))
  clear hb6
  try go_wp2_with fail
  refine hK.out _ _ ⟨HK16.out.cell 0, HK26.out.cell 0⟩ (fun hS => ?_)
  clear hK K
  try simp only [Act.put, List.getElem_toArray, List.getElem_cons_succ, List.getElem_cons_zero, List.setIfInBounds_toArray, List.set_cons_zero, List.set_cons_succ]
  refine wpAnyH_take (i := 9) (v := ?_) rfl (by kernel_rfl) (by kernel_rfl) (by kernel_rfl) (fun _ _ _ h => h) (Or.inl ⟨by kernel_rfl, ?_⟩) (by first | assumption | trivial) ?_
  rotate_left
  · intro w hSw
    try dsimp only at hSw
    first | (go_simp; done) | (go_simp; with_reducible rfl)
  try simp only [Act.put, List.getElem_toArray, List.getElem_cons_succ, List.getElem_cons_zero, List.setIfInBounds_toArray, List.set_cons_zero, List.set_cons_succ]
  have z0 : w6.cell? ⟨w.heap.size + 1 + 1 + 1, 0, none⟩ = some (.int .i64 0) := HK46.out.cell 0
  have z1 : w6.cell? ⟨w.heap.size + 1 + 1 + 1, 1, none⟩ = some (.int .i64 0) := HK46.out.cell 1
  have z2 : w6.cell? ⟨w.heap.size + 1 + 1 + 1, 2, none⟩ = some (.int .i64 0) := HK46.out.cell 2
  have z3 : w6.cell? ⟨w.heap.size + 1 + 1 + 1, 3, none⟩ = some (.int .i64 0) := HK46.out.cell 3
  have z4 : w6.cell? ⟨w.heap.size + 1 + 1 + 1, 4, none⟩ = some (.bool false) := HK46.out.cell 4
  have f0 := HK46.out.free 0
  have f1 := HK46.out.free 1
  have f2 := HK46.out.free 2
  have f3 := HK46.out.free 3
  have f4 := HK46.out.free 4
  refine wpAnyH_ready (rs := [10]) (by kernel_rfl) (by simp) ?_
  refine AllReadyH.cons rfl (fun K hK => ?_) AllReadyH.nil
  go_simp
  have HK17 : Hid (Blk (((((w6.setCell ⟨w.heap.size + 1 + 1 + 1, 0, none⟩ (.int .i64 m1)).setCell ⟨w.heap.size + 1 + 1 + 1, 1, none⟩ (.int .i64 m2)).setCell ⟨w.heap.size + 1 + 1 + 1, 2, none⟩ (.int .i64 AX)).setCell ⟨w.heap.size + 1 + 1 + 1, 3, none⟩ (.int .i64 AY)).setCell ⟨w.heap.size + 1 + 1 + 1, 4, none⟩ (.bool AL)) w.heap.size #[.int .i64 m1, .slice p1 n1 c1, .slice q1 a1 b1] 26) := ((((HK16.out.setOther (by simp; omega) _).setOther (by simp; omega) _).setOther (by simp; omega) _).setOther (by simp; omega) _).setOther (by simp; omega) _
  have HK27 : Hid (Blk (((((w6.setCell ⟨w.heap.size + 1 + 1 + 1, 0, none⟩ (.int .i64 m1)).setCell ⟨w.heap.size + 1 + 1 + 1, 1, none⟩ (.int .i64 m2)).setCell ⟨w.heap.size + 1 + 1 + 1, 2, none⟩ (.int .i64 AX)).setCell ⟨w.heap.size + 1 + 1 + 1, 3, none⟩ (.int .i64 AY)).setCell ⟨w.heap.size + 1 + 1 + 1, 4, none⟩ (.bool AL)) (w.heap.size + 1) #[.int .i64 m2, .slice p2 n2 c2, .slice q2 a2 b2] 26) := ((((HK26.out.setOther (by simp; omega) _).setOther (by simp; omega) _).setOther (by simp; omega) _).setOther (by simp; omega) _).setOther (by simp; omega) _
  have HK47 : Hid (Blk (((((w6.setCell ⟨w.heap.size + 1 + 1 + 1, 0, none⟩ (.int .i64 m1)).setCell ⟨w.heap.size + 1 + 1 + 1, 1, none⟩ (.int .i64 m2)).setCell ⟨w.heap.size + 1 + 1 + 1, 2, none⟩ (.int .i64 AX)).setCell ⟨w.heap.size + 1 + 1 + 1, 3, none⟩ (.int .i64 AY)).setCell ⟨w.heap.size + 1 + 1 + 1, 4, none⟩ (.bool AL)) (w.heap.size + 1 + 1 + 1) #[.int .i64 m1, .int .i64 m2, .int .i64 AX, .int .i64 AY, .bool AL] 30) := ((((HK46.out.set 0 (.int .i64 m1)).set 1 (.int .i64 m2)).set 2 (.int .i64 AX)).set 3 (.int .i64 AY)).set 4 (.bool AL)
  have HB7 : Hid (Below w.heap.size w (((((w6.setCell ⟨w.heap.size + 1 + 1 + 1, 0, none⟩ (.int .i64 m1)).setCell ⟨w.heap.size + 1 + 1 + 1, 1, none⟩ (.int .i64 m2)).setCell ⟨w.heap.size + 1 + 1 + 1, 2, none⟩ (.int .i64 AX)).setCell ⟨w.heap.size + 1 + 1 + 1, 3, none⟩ (.int .i64 AY)).setCell ⟨w.heap.size + 1 + 1 + 1, 4, none⟩ (.bool AL))) := ((((HB6.out.setCell HGL.out _).setCell HGL.out _).setCell HGL.out _).setCell HGL.out _).setCell HGL.out _
  generalize (((((w6.setCell ⟨w.heap.size + 1 + 1 + 1, 0, none⟩ (.int .i64 m1)).setCell ⟨w.heap.size + 1 + 1 + 1, 1, none⟩ (.int .i64 m2)).setCell ⟨w.heap.size + 1 + 1 + 1, 2, none⟩ (.int .i64 AX)).setCell ⟨w.heap.size + 1 + 1 + 1, 3, none⟩ (.int .i64 AY)).setCell ⟨w.heap.size + 1 + 1 + 1, 4, none⟩ (.bool AL)) = W7 at *
  refine hK.out _ _ ⟨HK17.out.cell 0, HK27.out.cell 0⟩ (fun hS => ?_)
  clear hK K
  try simp only [Act.put, List.getElem_toArray, List.getElem_cons_succ, List.getElem_cons_zero, List.setIfInBounds_toArray, List.set_cons_zero, List.set_cons_succ]
  refine wpAnyH_take (i := 11) (v := ?_) rfl (by kernel_rfl) (by kernel_rfl) (by kernel_rfl) (fun _ _ _ h => h) (Or.inl ⟨by kernel_rfl, ?_⟩) (by first | assumption | trivial) ?_
  rotate_left
  · intro w hSw
    try dsimp only at hSw
    first | (go_simp; done) | (go_simp; with_reducible rfl)
  try simp only [Act.put, List.getElem_toArray, List.getElem_cons_succ, List.getElem_cons_zero, List.setIfInBounds_toArray, List.set_cons_zero, List.set_cons_succ]
  refine wpAnyH_done (by kernel_rfl) ?_ _
  have r0 : W7.cell? ⟨w.heap.size + 1 + 1 + 1, 0, none⟩ = some (.int .i64 m1) := HK47.out.cell 0
  have r1 : W7.cell? ⟨w.heap.size + 1 + 1 + 1, 1, none⟩ = some (.int .i64 m2) := HK47.out.cell 1
  have r2 : W7.cell? ⟨w.heap.size + 1 + 1 + 1, 2, none⟩ = some (.int .i64 AX) := HK47.out.cell 2
  have r3 : W7.cell? ⟨w.heap.size + 1 + 1 + 1, 3, none⟩ = some (.int .i64 AY) := HK47.out.cell 3
  have r4 : W7.cell? ⟨w.heap.size + 1 + 1 + 1, 4, none⟩ = some (.bool AL) := HK47.out.cell 4
  go_wp2_with fail
  refine bodyPost_ret (v := .tuple #[pairV m1 m2 AX AY AL, .int .i64 0]) (by simp [results, Try.results7, go_sem, pairV, r0, r1, r2, r3, r4]) rfl ⟨by rw [HV.out], HB7.out⟩
set_option linter.unusedSimpArgs false in
set_option maxHeartbeats 4000000 in
set_option maxRecDepth 100000 in
theorem alike_any (w : World) (m1 m2 cur : Int) (p1 q1 p2 q2 : Option Addr) (n1 c1 a1 b1 n2 c2 a2 b2 : Nat) (xs ys : List Itm) (hx : TRow encI w (.slice p1 n1 c1) xs) (hy : TRow encI w (.slice p2 n2 c2) ys) (hlx : xs.length = n1) (hly : ys.length = n2) (hnx : xs.length ≤ 2000) (hny : ys.length ≤ 2000) (hox : Okx xs) (hoy : Okx ys) :
    Calls Try.prog 25 #[bookV m1 (.slice p1 n1 c1) (.slice q1 a1 b1), bookV m2 (.slice p2 n2 c2) (.slice q2 a2 b2), .int .i64 cur] w fun e w' => e = .returned (.bool (alikeB m1 m2 cur xs ys)) ∧ Below w.heap.size w w' := by
  have HL := Lib.hid (fun W (h : Below w.heap.size w W) => look_any W m1 m2 cur p1 q1 p2 q2 n1 c1 a1 b1 n2 c2 a2 b2 xs ys (hx.kept h) (hy.kept h) hlx hly hnx hny hox hoy)
  unfold lookV pairV at HL
  clear hx hy hlx hly hnx hny hox hoy
  generalize amtS (soldL m1 m2 cur xs) = AX at *
  generalize amtS (soldL m1 m2 cur ys) = AY at *
  generalize alikeB m1 m2 cur xs ys = AL at *
  have HB1 := Lib.hid ((oneB w (.cells #[.int .i64 m1, .slice p1 n1 c1, .slice q1 a1 b1] 26)).alloc (by simp) (.cells #[.int .i64 m2, .slice p2 n2 c2, .slice q2 a2 b2] 26))
  unfold bookV at *
  go_enter Try.func25, Try.ntmps25
  go_wp2_with fail
  generalize (w.alloc (.cells #[.int .i64 m1, .slice p1 n1 c1, .slice q1 a1 b1] 26)).alloc (.cells #[.int .i64 m2, .slice p2 n2 c2, .slice q2 a2 b2] 26) = W1 at *
  refine (HL.out W1 HB1.out).mono ?_
  rintro y w2 ⟨rfl, hb2⟩
  have HB2 := Lib.hid (HB1.out.trans (hb2.mono HB1.out.size))
  have HB3 := Lib.hid (HB2.out.trans ((oneB w2 (.cells #[.int .i64 m1, .int .i64 m2, .int .i64 AX, .int .i64 AY, .bool AL] 30)).mono HB2.out.size))
  clear hb2 HL
  go_wp2_with fail
  go_ret
  exact ⟨rfl, HB3.out⟩
end Go.Proofs.Ytillckkohdjkbaa
