/- Items of a book: findItem, with, by contract. -/
import Derived.Test.YtbpfbebebppleaaSearchI
import Derived.Test.YtbpfbebebppleaaCatI
import Derived.Test.YtbpfbebebppleaaBookV
import Derived.Deep.RegionHeld3
namespace Go.Proofs.Ytbpfbebebppleaa
open Go.RowKit
set_option maxHeartbeats 1000000 in
theorem findI_any (w : World) (me : Int) (vi vo : Value) (xs A mid B : List Itm) (s n : Int) (hr : TRow encI w vi xs) (hA : AroundF posI ⟨s, n, 0⟩ xs A mid B) (hn : xs.length ≤ 2000) :
    Calls Try.prog 25 #[bookV me vi vo, idV s n] w fun x w' => x = .returned (.tuple #[.int .i64 A.length, .bool (decide (mid ≠ []))]) ∧ Below w.heap.size w w' := by
  have HS := Lib.hid (fun (w' : World) (hb : Below w.heap.size w w') => searchI_any w' vi xs A mid B s n (hr.kept hb) hA hn)
  clear hr hA hn
  generalize decide (mid ≠ []) = fnd at HS ⊢
  unfold bookV idV at *
  have h2 : Below w.heap.size w ((w.alloc (.cells #[.int .i64 me, vi, vo] 27)).alloc (.cells #[.int .i64 s, .int .i64 n] 36)) := (oneB w _).alloc (by simp) _
  have H2 := Lib.hid h2
  clear h2
  go_enter Try.func25, Try.ntmps25
  go_wp2_with fail
  refine (HS.out _ H2.out).mono ?_
  rintro y w1 ⟨rfl, hb1⟩
  have HB := Lib.hid (H2.out.trans (hb1.mono H2.out.size))
  clear hb1
  go_wp2_with fail
  go_ret2
  exact ⟨rfl, HB.out⟩
theorem concat3I (W : World) (b : Nat) (va vb vc : Value) (A C : List Itm) (x : Itm) (t : TypeId) (hB : Blk W b #[va, vb, vc] t) (hA : TRow encI W va A) (hX : TRow encI W vb [x]) (hC : TRow encI W vc C) (hn : A.length + C.length ≤ 5000) :
    Calls Try.prog 77 #[.slice (some ⟨b, 0, none⟩) 3 3] W fun e w' => ∃ v, e = .returned v ∧ OwnT encI w' W.heap.size 64 v (A ++ [x] ++ C) ∧ Below W.heap.size W w' := by
  have h := concatI_any b 0 3 3 [va, vb, vc] [A, [x], C] W (RowsT.three hB rfl hA hX hC) rfl (by omega) (by simp; omega)
  rwa [show [A, [x], C].flatten = A ++ [x] ++ C by simp] at h
set_option linter.unusedSimpArgs false in
set_option maxHeartbeats 4000000 in
set_option maxRecDepth 100000 in
theorem withI_fc (w : World) (pv : Option Addr) (cv : Nat) (xs A B : List Itm) (q x : Itm) (hr : TRow encI w (.slice pv xs.length cv) xs) (hall : xs = A ++ [q] ++ B) (hn : xs.length ≤ 2000) (hcv : cv - A.length = 1) :
    Calls Try.prog 74 #[.slice pv xs.length cv, .int .i64 A.length, .bool true, x.v] w fun e w' => ∃ v', e = .returned v' ∧ OwnT encI w' w.heap.size 64 v' (A ++ [x] ++ B) ∧ Below w.heap.size w w' := by
  have hlen : xs.length = A.length + 1 + B.length := by rw [hall]; simp; omega
  have hAt : xs.take A.length = A := by rw [hall, List.append_assoc, List.take_left]
  have hBd : xs.drop (A.length + 1) = B := by rw [hall, List.drop_left' (by simp)]
  have hpc : xs.length ≤ cv := hr.cap
  have HLEN := Lib.hid hlen
  have HR := Lib.hid hr
  have HAT := Lib.hid hAt
  have HBD := Lib.hid hBd
  obtain ⟨b, o, hpv⟩ : ∃ b o, pv = some ⟨b, o, none⟩ := by obtain ⟨b, o, h, _⟩ := hr.at_ A.length (by omega); exact ⟨b, o, h⟩
  subst hpv
  clear hr hall hAt hBd
  unfold Itm.v
  have hcap1 : ((A.length : Nat) : Int) ≤ (xs.length : Int) := by omega
  have hcap2 : (xs.length : Int) ≤ (cv : Int) := by omega
  have hcap3 : ((A.length : Nat) : Int) ≤ (cv : Int) := by omega
  have hcn : A.length ≤ cv := by omega
  have hcap4 : ((A.length : Nat) : Int) < (xs.length : Int) := by omega
  have hcap5 : 1 ≤ xs.length - A.length := by omega
  have hcap6 : 1 ≤ cv - A.length := by omega
  have hcap7 : ¬ cv - A.length = 0 := by omega
  have hbl : A.length + B.length ≤ 5000 := by omega
  clear hlen
  go_enter Try.func74, Try.ntmps74
  go_wp2_with fail
  generalize hW1 : w.alloc (.cells #[.int .i64 x.s, .int .i64 x.n, .int .i64 x.b, .int .i64 x.c, .int .i64 x.a, .int .i64 x.r, .int .i64 x.t, .int .i64 x.y] 64) = W1
  have hB1 : Below w.heap.size w W1 := by rw [← hW1]; exact oneB w _
  have hT1 : Blk W1 w.heap.size #[.int .i64 x.s, .int .i64 x.n, .int .i64 x.b, .int .i64 x.c, .int .i64 x.a, .int .i64 x.r, .int .i64 x.t, .int .i64 x.y] 64 := by rw [← hW1]; exact Blk.new w _ _
  have HB1 := Lib.hid hB1
  have HT1 := Lib.hid hT1
  have HRW := Lib.hid (HR.out.kept hB1)
  have ha2 := HRW.out.take A.length (by omega)
  rw [HAT.out] at ha2
  have HA2 := Lib.hid ha2
  clear hW1 hB1 hT1 ha2 HR
  refine wp_region_held_drew (S := fun w' => w'.cell? ⟨w.heap.size, 0, none⟩ = some (.int .i64 x.s) ∧ w'.cell? ⟨w.heap.size, 1, none⟩ = some (.int .i64 x.n) ∧ w'.cell? ⟨w.heap.size, 2, none⟩ = some (.int .i64 x.b) ∧ w'.cell? ⟨w.heap.size, 3, none⟩ = some (.int .i64 x.c) ∧ w'.cell? ⟨w.heap.size, 4, none⟩ = some (.int .i64 x.a) ∧ w'.cell? ⟨w.heap.size, 5, none⟩ = some (.int .i64 x.r) ∧ w'.cell? ⟨w.heap.size, 6, none⟩ = some (.int .i64 x.t) ∧ w'.cell? ⟨w.heap.size, 7, none⟩ = some (.int .i64 x.y)) (by kernel_rfl) ⟨HT1.out.cell 0, HT1.out.cell 1, HT1.out.cell 2, HT1.out.cell 3, HT1.out.cell 4, HT1.out.cell 5, HT1.out.cell 6, HT1.out.cell 7⟩ (fun hS0 => ?_)
  refine wpAnyH_take (i := 0) (v := ?_) rfl (by kernel_rfl) (by kernel_rfl) (by kernel_rfl) (fun _ _ _ h => h) (Or.inl ⟨by kernel_rfl, ?_⟩) (by first | assumption | trivial) ?_
  rotate_left
  · intro w hSw
    try dsimp only at hSw
    first | (go_simp; done) | (go_simp; with_reducible rfl)
  try simp only [Act.put, List.getElem_toArray, List.getElem_cons_succ, List.getElem_cons_zero, List.setIfInBounds_toArray, List.set_cons_zero, List.set_cons_succ]
  refine wpAnyH_take (i := 1) (v := ?_) rfl (by kernel_rfl) (by kernel_rfl) (by kernel_rfl) (fun _ _ _ h => h) (Or.inl ⟨by kernel_rfl, ?_⟩) (by first | assumption | trivial) ?_
  rotate_left
  · intro w hSw
    try dsimp only at hSw
    first | (go_simp; done) | (go_simp; with_reducible rfl)
  try simp only [Act.put, List.getElem_toArray, List.getElem_cons_succ, List.getElem_cons_zero, List.setIfInBounds_toArray, List.set_cons_zero, List.set_cons_succ]
  refine wpAnyH_take (i := 2) (v := ?_) rfl (by kernel_rfl) (by kernel_rfl) (by kernel_rfl) (fun _ _ _ h => h) (Or.inl ⟨by kernel_rfl, ?_⟩) (by first | assumption | trivial) ?_
  rotate_left
  · intro w hSw
    try dsimp only at hSw
    first | (go_simp; done) | (go_simp; with_reducible rfl)
  try simp only [Act.put, List.getElem_toArray, List.getElem_cons_succ, List.getElem_cons_zero, List.setIfInBounds_toArray, List.set_cons_zero, List.set_cons_succ]
  refine wpAnyH_take (i := 3) (v := ?_) rfl (by kernel_rfl) (by kernel_rfl) (by kernel_rfl) (fun _ _ _ h => h) (Or.inl ⟨by kernel_rfl, ?_⟩) (by first | assumption | trivial) ?_
  rotate_left
  · intro w hSw
    try dsimp only at hSw
    first | (go_simp; done) | (go_simp; with_reducible rfl)
  try simp only [Act.put, List.getElem_toArray, List.getElem_cons_succ, List.getElem_cons_zero, List.setIfInBounds_toArray, List.set_cons_zero, List.set_cons_succ]
  refine wpAnyH_take (i := 5) (v := ?_) rfl (by kernel_rfl) (by kernel_rfl) (by kernel_rfl) (fun _ _ _ h => h) (Or.inl ⟨by kernel_rfl, ?_⟩) (by first | assumption | trivial) ?_
  rotate_left
  · intro w hSw
    try dsimp only at hSw
    first | (go_simp; done) | (go_simp; with_reducible rfl)
  try simp only [Act.put, List.getElem_toArray, List.getElem_cons_succ, List.getElem_cons_zero, List.setIfInBounds_toArray, List.set_cons_zero, List.set_cons_succ]
  refine wpAnyH_ready (rs := [4]) (by kernel_rfl) (by simp) ?_
  refine AllReadyH.cons rfl (fun K hK => ?_) AllReadyH.nil
  go_simp
  have HT2 := Lib.hid (HT1.out.alloc (.cells #[.int .i64 x.s, .int .i64 x.n, .int .i64 x.b, .int .i64 x.c, .int .i64 x.a, .int .i64 x.r, .int .i64 x.t, .int .i64 x.y] 64)).drew
  have HB2 := Lib.hid (oneB W1 (.cells #[.int .i64 x.s, .int .i64 x.n, .int .i64 x.b, .int .i64 x.c, .int .i64 x.a, .int .i64 x.r, .int .i64 x.t, .int .i64 x.y] 64)).drew
  have HX2 := Lib.hid (TRow.one_ encI x (Blk.new W1 #[.int .i64 x.s, .int .i64 x.n, .int .i64 x.b, .int .i64 x.c, .int .i64 x.a, .int .i64 x.r, .int .i64 x.t, .int .i64 x.y] 64).drew rfl (Nat.le_refl 1))
  generalize hW2 : (W1.alloc (.cells #[.int .i64 x.s, .int .i64 x.n, .int .i64 x.b, .int .i64 x.c, .int .i64 x.a, .int .i64 x.r, .int .i64 x.t, .int .i64 x.y] 64)).drew = W2 at *
  refine hK.out _ _ ⟨HT2.out.cell 0, HT2.out.cell 1, HT2.out.cell 2, HT2.out.cell 3, HT2.out.cell 4, HT2.out.cell 5, HT2.out.cell 6, HT2.out.cell 7⟩ (fun hS => ?_)
  clear hK K
  try simp only [Act.put, List.getElem_toArray, List.getElem_cons_succ, List.getElem_cons_zero, List.setIfInBounds_toArray, List.set_cons_zero, List.set_cons_succ]
  have HS2 : Hid (W2.heap.size = W1.heap.size + 1) := by show _ = _; rw [← hW2]; simp
  clear hW2
  refine wpAnyH_ready (rs := [6]) (by kernel_rfl) (by simp) ?_
  refine AllReadyH.cons rfl (fun K hK => ?_) AllReadyH.nil
  go_simp
  refine hK.out _ _ (by first | exact ⟨(HT2.out.alloc _).cell 0, (HT2.out.alloc _).cell 1, (HT2.out.alloc _).cell 2, (HT2.out.alloc _).cell 3, (HT2.out.alloc _).cell 4, (HT2.out.alloc _).cell 5, (HT2.out.alloc _).cell 6, (HT2.out.alloc _).cell 7⟩ | exact ⟨(HT2.out.alloc _).drew.cell 0, (HT2.out.alloc _).drew.cell 1, (HT2.out.alloc _).drew.cell 2, (HT2.out.alloc _).drew.cell 3, (HT2.out.alloc _).drew.cell 4, (HT2.out.alloc _).drew.cell 5, (HT2.out.alloc _).drew.cell 6, (HT2.out.alloc _).drew.cell 7⟩) (fun hS => ?_)
  clear hK K
  try simp only [Act.put, List.getElem_toArray, List.getElem_cons_succ, List.getElem_cons_zero, List.setIfInBounds_toArray, List.set_cons_zero, List.set_cons_succ]
  refine wpAnyH_ready (rs := [7]) (by kernel_rfl) (by simp) ?_
  refine AllReadyH.cons rfl (fun K hK => ?_) AllReadyH.nil
  go_simp
  go_at_call 77
  refine (concat3I _ _ _ _ _ A B x _ (Blk.new' W2 _ _ rfl) ((HA2.out.kept HB2.out).kept (oneB W2 _)) (HX2.out.kept (oneB W2 _)) ?hC hbl).mono ?_
  case hC =>
    refine TRow.kept ?_ (oneB W2 _)
    rw [← HBD.out]
    have hlen : _ = _ := HLEN.out
    exact (HRW.out.kept HB2.out).tail (A.length + 1) (by omega) (by omega) (by omega) (fun b' o' e h => by first | (cases e; simp; done) | (cases e; simp; rw [addAt]; done) | (cases e; simp; omega) | (subst e; simp; omega) | (subst e; simp; rw [addAt]; done) | omega)
  rintro y w3 ⟨v3, rfl, ho3, hb3⟩
  have HO3 := Lib.hid ho3
  have HB3 := Lib.hid ((HB2.out.trans ((oneB W2 _).mono HB2.out.size)).trans (hb3.mono (by have := HS2.out; simp; omega)))
  clear ho3 hb3
  try go_wp2_with fail
  refine hK.out _ _ (⟨(HT1.out.below HB3.out HT1.out.lt).cell 0, (HT1.out.below HB3.out HT1.out.lt).cell 1, (HT1.out.below HB3.out HT1.out.lt).cell 2, (HT1.out.below HB3.out HT1.out.lt).cell 3, (HT1.out.below HB3.out HT1.out.lt).cell 4, (HT1.out.below HB3.out HT1.out.lt).cell 5, (HT1.out.below HB3.out HT1.out.lt).cell 6, (HT1.out.below HB3.out HT1.out.lt).cell 7⟩) (fun hS => ?_)
  clear hK K
  try simp only [Act.put, List.getElem_toArray, List.getElem_cons_succ, List.getElem_cons_zero, List.setIfInBounds_toArray, List.set_cons_zero, List.set_cons_succ]
  refine wpAnyH_take (i := 8) (v := ?_) rfl (by kernel_rfl) (by kernel_rfl) (by kernel_rfl) (fun _ _ _ h => h) (Or.inl ⟨by kernel_rfl, ?_⟩) (by first | assumption | trivial) ?_
  rotate_left
  · intro w hSw
    try dsimp only at hSw
    first | (go_simp; done) | (go_simp; with_reducible rfl)
  try simp only [Act.put, List.getElem_toArray, List.getElem_cons_succ, List.getElem_cons_zero, List.setIfInBounds_toArray, List.set_cons_zero, List.set_cons_succ]
  refine wpAnyH_done (by kernel_rfl) ?_ _
  obtain ⟨p3, c3, hv3⟩ := HO3.out.form
  generalize (A ++ [x] ++ B).length = n3 at hv3
  subst hv3
  go_wp2_with fail
  go_ret
  exact ⟨_, rfl, HO3.out.less (by have := HS2.out; have := HB1.out.size; simp; omega), HB1.out.trans (HB3.out.mono HB1.out.size)⟩
set_option linter.unusedSimpArgs false in
set_option maxHeartbeats 4000000 in
set_option maxRecDepth 100000 in
theorem withI_fo (w : World) (pv : Option Addr) (cv : Nat) (xs A B : List Itm) (q x : Itm) (hr : TRow encI w (.slice pv xs.length cv) xs) (hall : xs = A ++ [q] ++ B) (hn : xs.length ≤ 2000) (hcv : ¬ cv - A.length = 1) :
    Calls Try.prog 74 #[.slice pv xs.length cv, .int .i64 A.length, .bool true, x.v] w fun e w' => ∃ v', e = .returned v' ∧ OwnT encI w' w.heap.size 64 v' (A ++ [x] ++ B) ∧ Below w.heap.size w w' := by
  have hlen : xs.length = A.length + 1 + B.length := by rw [hall]; simp; omega
  have hAt : xs.take A.length = A := by rw [hall, List.append_assoc, List.take_left]
  have hBd : xs.drop (A.length + 1) = B := by rw [hall, List.drop_left' (by simp)]
  have hpc : xs.length ≤ cv := hr.cap
  have HLEN := Lib.hid hlen
  have HR := Lib.hid hr
  have HAT := Lib.hid hAt
  have HBD := Lib.hid hBd
  obtain ⟨b, o, hpv⟩ : ∃ b o, pv = some ⟨b, o, none⟩ := by obtain ⟨b, o, h, _⟩ := hr.at_ A.length (by omega); exact ⟨b, o, h⟩
  subst hpv
  clear hr hall hAt hBd
  unfold Itm.v
  have hcap1 : ((A.length : Nat) : Int) ≤ (xs.length : Int) := by omega
  have hcap2 : (xs.length : Int) ≤ (cv : Int) := by omega
  have hcap3 : ((A.length : Nat) : Int) ≤ (cv : Int) := by omega
  have hcn : A.length ≤ cv := by omega
  have hcap4 : ((A.length : Nat) : Int) < (xs.length : Int) := by omega
  have hcap5 : 1 ≤ xs.length - A.length := by omega
  have hcap6 : 1 ≤ cv - A.length := by omega
  have hcap7 : ¬ cv - A.length = 0 := by omega
  have hbl : A.length + B.length ≤ 5000 := by omega
  clear hlen
  go_enter Try.func74, Try.ntmps74
  go_wp2_with fail
  generalize hW1 : w.alloc (.cells #[.int .i64 x.s, .int .i64 x.n, .int .i64 x.b, .int .i64 x.c, .int .i64 x.a, .int .i64 x.r, .int .i64 x.t, .int .i64 x.y] 64) = W1
  have hB1 : Below w.heap.size w W1 := by rw [← hW1]; exact oneB w _
  have hT1 : Blk W1 w.heap.size #[.int .i64 x.s, .int .i64 x.n, .int .i64 x.b, .int .i64 x.c, .int .i64 x.a, .int .i64 x.r, .int .i64 x.t, .int .i64 x.y] 64 := by rw [← hW1]; exact Blk.new w _ _
  have HB1 := Lib.hid hB1
  have HT1 := Lib.hid hT1
  have HRW := Lib.hid (HR.out.kept hB1)
  have ha2 := HRW.out.take A.length (by omega)
  rw [HAT.out] at ha2
  have HA2 := Lib.hid ha2
  clear hW1 hB1 hT1 ha2 HR
  refine wp_region_held_drew (S := fun w' => w'.cell? ⟨w.heap.size, 0, none⟩ = some (.int .i64 x.s) ∧ w'.cell? ⟨w.heap.size, 1, none⟩ = some (.int .i64 x.n) ∧ w'.cell? ⟨w.heap.size, 2, none⟩ = some (.int .i64 x.b) ∧ w'.cell? ⟨w.heap.size, 3, none⟩ = some (.int .i64 x.c) ∧ w'.cell? ⟨w.heap.size, 4, none⟩ = some (.int .i64 x.a) ∧ w'.cell? ⟨w.heap.size, 5, none⟩ = some (.int .i64 x.r) ∧ w'.cell? ⟨w.heap.size, 6, none⟩ = some (.int .i64 x.t) ∧ w'.cell? ⟨w.heap.size, 7, none⟩ = some (.int .i64 x.y)) (by kernel_rfl) ⟨HT1.out.cell 0, HT1.out.cell 1, HT1.out.cell 2, HT1.out.cell 3, HT1.out.cell 4, HT1.out.cell 5, HT1.out.cell 6, HT1.out.cell 7⟩ (fun hS0 => ?_)
  refine wpAnyH_take (i := 0) (v := ?_) rfl (by kernel_rfl) (by kernel_rfl) (by kernel_rfl) (fun _ _ _ h => h) (Or.inl ⟨by kernel_rfl, ?_⟩) (by first | assumption | trivial) ?_
  rotate_left
  · intro w hSw
    try dsimp only at hSw
    first | (go_simp; done) | (go_simp; with_reducible rfl)
  try simp only [Act.put, List.getElem_toArray, List.getElem_cons_succ, List.getElem_cons_zero, List.setIfInBounds_toArray, List.set_cons_zero, List.set_cons_succ]
  refine wpAnyH_take (i := 1) (v := ?_) rfl (by kernel_rfl) (by kernel_rfl) (by kernel_rfl) (fun _ _ _ h => h) (Or.inl ⟨by kernel_rfl, ?_⟩) (by first | assumption | trivial) ?_
  rotate_left
  · intro w hSw
    try dsimp only at hSw
    first | (go_simp; done) | (go_simp; with_reducible rfl)
  try simp only [Act.put, List.getElem_toArray, List.getElem_cons_succ, List.getElem_cons_zero, List.setIfInBounds_toArray, List.set_cons_zero, List.set_cons_succ]
  refine wpAnyH_take (i := 2) (v := ?_) rfl (by kernel_rfl) (by kernel_rfl) (by kernel_rfl) (fun _ _ _ h => h) (Or.inl ⟨by kernel_rfl, ?_⟩) (by first | assumption | trivial) ?_
  rotate_left
  · intro w hSw
    try dsimp only at hSw
    first | (go_simp; done) | (go_simp; with_reducible rfl)
  try simp only [Act.put, List.getElem_toArray, List.getElem_cons_succ, List.getElem_cons_zero, List.setIfInBounds_toArray, List.set_cons_zero, List.set_cons_succ]
  refine wpAnyH_take (i := 3) (v := ?_) rfl (by kernel_rfl) (by kernel_rfl) (by kernel_rfl) (fun _ _ _ h => h) (Or.inl ⟨by kernel_rfl, ?_⟩) (by first | assumption | trivial) ?_
  rotate_left
  · intro w hSw
    try dsimp only at hSw
    first | (go_simp; done) | (go_simp; with_reducible rfl)
  try simp only [Act.put, List.getElem_toArray, List.getElem_cons_succ, List.getElem_cons_zero, List.setIfInBounds_toArray, List.set_cons_zero, List.set_cons_succ]
  refine wpAnyH_take (i := 5) (v := ?_) rfl (by kernel_rfl) (by kernel_rfl) (by kernel_rfl) (fun _ _ _ h => h) (Or.inl ⟨by kernel_rfl, ?_⟩) (by first | assumption | trivial) ?_
  rotate_left
  · intro w hSw
    try dsimp only at hSw
    first | (go_simp; done) | (go_simp; with_reducible rfl)
  try simp only [Act.put, List.getElem_toArray, List.getElem_cons_succ, List.getElem_cons_zero, List.setIfInBounds_toArray, List.set_cons_zero, List.set_cons_succ]
  refine wpAnyH_ready (rs := [4]) (by kernel_rfl) (by simp) ?_
  refine AllReadyH.cons rfl (fun K hK => ?_) AllReadyH.nil
  go_simp
  have HT2 := Lib.hid (HT1.out.alloc (.cells #[.int .i64 x.s, .int .i64 x.n, .int .i64 x.b, .int .i64 x.c, .int .i64 x.a, .int .i64 x.r, .int .i64 x.t, .int .i64 x.y] 64)).drew
  have HB2 := Lib.hid (oneB W1 (.cells #[.int .i64 x.s, .int .i64 x.n, .int .i64 x.b, .int .i64 x.c, .int .i64 x.a, .int .i64 x.r, .int .i64 x.t, .int .i64 x.y] 64)).drew
  have HX2 := Lib.hid (TRow.one_ encI x (Blk.new W1 #[.int .i64 x.s, .int .i64 x.n, .int .i64 x.b, .int .i64 x.c, .int .i64 x.a, .int .i64 x.r, .int .i64 x.t, .int .i64 x.y] 64).drew rfl (Nat.le_refl 1))
  generalize hW2 : (W1.alloc (.cells #[.int .i64 x.s, .int .i64 x.n, .int .i64 x.b, .int .i64 x.c, .int .i64 x.a, .int .i64 x.r, .int .i64 x.t, .int .i64 x.y] 64)).drew = W2 at *
  refine hK.out _ _ ⟨HT2.out.cell 0, HT2.out.cell 1, HT2.out.cell 2, HT2.out.cell 3, HT2.out.cell 4, HT2.out.cell 5, HT2.out.cell 6, HT2.out.cell 7⟩ (fun hS => ?_)
  clear hK K
  try simp only [Act.put, List.getElem_toArray, List.getElem_cons_succ, List.getElem_cons_zero, List.setIfInBounds_toArray, List.set_cons_zero, List.set_cons_succ]
  have HS2 : Hid (W2.heap.size = W1.heap.size + 1) := by show _ = _; rw [← hW2]; simp
  clear hW2
  refine wpAnyH_ready (rs := [6]) (by kernel_rfl) (by simp) ?_
  refine AllReadyH.cons rfl (fun K hK => ?_) AllReadyH.nil
  go_simp
  refine hK.out _ _ (by first | exact ⟨(HT2.out.alloc _).cell 0, (HT2.out.alloc _).cell 1, (HT2.out.alloc _).cell 2, (HT2.out.alloc _).cell 3, (HT2.out.alloc _).cell 4, (HT2.out.alloc _).cell 5, (HT2.out.alloc _).cell 6, (HT2.out.alloc _).cell 7⟩ | exact ⟨(HT2.out.alloc _).drew.cell 0, (HT2.out.alloc _).drew.cell 1, (HT2.out.alloc _).drew.cell 2, (HT2.out.alloc _).drew.cell 3, (HT2.out.alloc _).drew.cell 4, (HT2.out.alloc _).drew.cell 5, (HT2.out.alloc _).drew.cell 6, (HT2.out.alloc _).drew.cell 7⟩) (fun hS => ?_)
  clear hK K
  try simp only [Act.put, List.getElem_toArray, List.getElem_cons_succ, List.getElem_cons_zero, List.setIfInBounds_toArray, List.set_cons_zero, List.set_cons_succ]
  refine wpAnyH_ready (rs := [7]) (by kernel_rfl) (by simp) ?_
  refine AllReadyH.cons rfl (fun K hK => ?_) AllReadyH.nil
  go_simp
  go_at_call 77
  refine (concat3I _ _ _ _ _ A B x _ (Blk.new' W2 _ _ rfl) ((HA2.out.kept HB2.out).kept (oneB W2 _)) (HX2.out.kept (oneB W2 _)) ?hC hbl).mono ?_
  case hC =>
    refine TRow.kept ?_ (oneB W2 _)
    rw [← HBD.out]
    have hlen : _ = _ := HLEN.out
    exact (HRW.out.kept HB2.out).tail (A.length + 1) (by omega) (by omega) (by omega) (fun b' o' e h => by first | (cases e; simp; done) | (cases e; simp; rw [addAt]; done) | (cases e; simp; omega) | (subst e; simp; omega) | (subst e; simp; rw [addAt]; done) | omega)
  rintro y w3 ⟨v3, rfl, ho3, hb3⟩
  have HO3 := Lib.hid ho3
  have HB3 := Lib.hid ((HB2.out.trans ((oneB W2 _).mono HB2.out.size)).trans (hb3.mono (by have := HS2.out; simp; omega)))
  clear ho3 hb3
  try go_wp2_with fail
  refine hK.out _ _ (⟨(HT1.out.below HB3.out HT1.out.lt).cell 0, (HT1.out.below HB3.out HT1.out.lt).cell 1, (HT1.out.below HB3.out HT1.out.lt).cell 2, (HT1.out.below HB3.out HT1.out.lt).cell 3, (HT1.out.below HB3.out HT1.out.lt).cell 4, (HT1.out.below HB3.out HT1.out.lt).cell 5, (HT1.out.below HB3.out HT1.out.lt).cell 6, (HT1.out.below HB3.out HT1.out.lt).cell 7⟩) (fun hS => ?_)
  clear hK K
  try simp only [Act.put, List.getElem_toArray, List.getElem_cons_succ, List.getElem_cons_zero, List.setIfInBounds_toArray, List.set_cons_zero, List.set_cons_succ]
  refine wpAnyH_take (i := 8) (v := ?_) rfl (by kernel_rfl) (by kernel_rfl) (by kernel_rfl) (fun _ _ _ h => h) (Or.inl ⟨by kernel_rfl, ?_⟩) (by first | assumption | trivial) ?_
  rotate_left
  · intro w hSw
    try dsimp only at hSw
    first | (go_simp; done) | (go_simp; with_reducible rfl)
  try simp only [Act.put, List.getElem_toArray, List.getElem_cons_succ, List.getElem_cons_zero, List.setIfInBounds_toArray, List.set_cons_zero, List.set_cons_succ]
  refine wpAnyH_done (by kernel_rfl) ?_ _
  obtain ⟨p3, c3, hv3⟩ := HO3.out.form
  generalize (A ++ [x] ++ B).length = n3 at hv3
  subst hv3
  go_wp2_with fail
  go_ret
  exact ⟨_, rfl, HO3.out.less (by have := HS2.out; have := HB1.out.size; simp; omega), HB1.out.trans (HB3.out.mono HB1.out.size)⟩
set_option linter.unusedSimpArgs false in
set_option maxHeartbeats 4000000 in
set_option maxRecDepth 100000 in
theorem withI_nc (w : World) (pv : Option Addr) (cv : Nat) (xs A B : List Itm) (x : Itm) (hr : TRow encI w (.slice pv xs.length cv) xs) (hall : xs = A ++ [] ++ B) (hn : xs.length ≤ 2000) (hcv : cv - A.length = 0) :
    Calls Try.prog 74 #[.slice pv xs.length cv, .int .i64 A.length, .bool false, x.v] w fun e w' => ∃ v', e = .returned v' ∧ OwnT encI w' w.heap.size 64 v' (A ++ [x] ++ B) ∧ Below w.heap.size w w' := by
  have hlen : xs.length = A.length + 0 + B.length := by rw [hall]; simp
  have hAt : xs.take A.length = A := by rw [hall, List.append_assoc, List.take_left]
  have hBd : xs.drop (A.length + 0) = B := by rw [hall, List.drop_left' (by simp)]
  have hpc : xs.length ≤ cv := hr.cap
  have HLEN := Lib.hid hlen
  have HR := Lib.hid hr
  have HAT := Lib.hid hAt
  have HBD := Lib.hid hBd
  clear hr hall hAt hBd
  unfold Itm.v
  have hcap1 : ((A.length : Nat) : Int) ≤ (xs.length : Int) := by omega
  have hcap2 : (xs.length : Int) ≤ (cv : Int) := by omega
  have hcap3 : ((A.length : Nat) : Int) ≤ (cv : Int) := by omega
  have hcn : A.length ≤ cv := by omega
  have hbl : A.length + B.length ≤ 5000 := by omega
  clear hlen
  go_enter Try.func74, Try.ntmps74
  go_wp2_with fail
  generalize hW1 : w.alloc (.cells #[.int .i64 x.s, .int .i64 x.n, .int .i64 x.b, .int .i64 x.c, .int .i64 x.a, .int .i64 x.r, .int .i64 x.t, .int .i64 x.y] 64) = W1
  have hB1 : Below w.heap.size w W1 := by rw [← hW1]; exact oneB w _
  have hT1 : Blk W1 w.heap.size #[.int .i64 x.s, .int .i64 x.n, .int .i64 x.b, .int .i64 x.c, .int .i64 x.a, .int .i64 x.r, .int .i64 x.t, .int .i64 x.y] 64 := by rw [← hW1]; exact Blk.new w _ _
  have HB1 := Lib.hid hB1
  have HT1 := Lib.hid hT1
  have HRW := Lib.hid (HR.out.kept hB1)
  have ha2 := HRW.out.take A.length (by omega)
  rw [HAT.out] at ha2
  have HA2 := Lib.hid ha2
  clear hW1 hB1 hT1 ha2 HR
  refine wp_region_held_drew (S := fun w' => w'.cell? ⟨w.heap.size, 0, none⟩ = some (.int .i64 x.s) ∧ w'.cell? ⟨w.heap.size, 1, none⟩ = some (.int .i64 x.n) ∧ w'.cell? ⟨w.heap.size, 2, none⟩ = some (.int .i64 x.b) ∧ w'.cell? ⟨w.heap.size, 3, none⟩ = some (.int .i64 x.c) ∧ w'.cell? ⟨w.heap.size, 4, none⟩ = some (.int .i64 x.a) ∧ w'.cell? ⟨w.heap.size, 5, none⟩ = some (.int .i64 x.r) ∧ w'.cell? ⟨w.heap.size, 6, none⟩ = some (.int .i64 x.t) ∧ w'.cell? ⟨w.heap.size, 7, none⟩ = some (.int .i64 x.y)) (by kernel_rfl) ⟨HT1.out.cell 0, HT1.out.cell 1, HT1.out.cell 2, HT1.out.cell 3, HT1.out.cell 4, HT1.out.cell 5, HT1.out.cell 6, HT1.out.cell 7⟩ (fun hS0 => ?_)
  refine wpAnyH_take (i := 0) (v := ?_) rfl (by kernel_rfl) (by kernel_rfl) (by kernel_rfl) (fun _ _ _ h => h) (Or.inl ⟨by kernel_rfl, ?_⟩) (by first | assumption | trivial) ?_
  rotate_left
  · intro w hSw
    try dsimp only at hSw
    first | (go_simp; done) | (go_simp; with_reducible rfl)
  try simp only [Act.put, List.getElem_toArray, List.getElem_cons_succ, List.getElem_cons_zero, List.setIfInBounds_toArray, List.set_cons_zero, List.set_cons_succ]
  refine wpAnyH_take (i := 1) (v := ?_) rfl (by kernel_rfl) (by kernel_rfl) (by kernel_rfl) (fun _ _ _ h => h) (Or.inl ⟨by kernel_rfl, ?_⟩) (by first | assumption | trivial) ?_
  rotate_left
  · intro w hSw
    try dsimp only at hSw
    first | (go_simp; done) | (go_simp; with_reducible rfl)
  try simp only [Act.put, List.getElem_toArray, List.getElem_cons_succ, List.getElem_cons_zero, List.setIfInBounds_toArray, List.set_cons_zero, List.set_cons_succ]
  refine wpAnyH_take (i := 2) (v := ?_) rfl (by kernel_rfl) (by kernel_rfl) (by kernel_rfl) (fun _ _ _ h => h) (Or.inl ⟨by kernel_rfl, ?_⟩) (by first | assumption | trivial) ?_
  rotate_left
  · intro w hSw
    try dsimp only at hSw
    first | (go_simp; done) | (go_simp; with_reducible rfl)
  try simp only [Act.put, List.getElem_toArray, List.getElem_cons_succ, List.getElem_cons_zero, List.setIfInBounds_toArray, List.set_cons_zero, List.set_cons_succ]
  refine wpAnyH_take (i := 3) (v := ?_) rfl (by kernel_rfl) (by kernel_rfl) (by kernel_rfl) (fun _ _ _ h => h) (Or.inl ⟨by kernel_rfl, ?_⟩) (by first | assumption | trivial) ?_
  rotate_left
  · intro w hSw
    try dsimp only at hSw
    first | (go_simp; done) | (go_simp; with_reducible rfl)
  try simp only [Act.put, List.getElem_toArray, List.getElem_cons_succ, List.getElem_cons_zero, List.setIfInBounds_toArray, List.set_cons_zero, List.set_cons_succ]
  refine wpAnyH_take (i := 5) (v := ?_) rfl (by kernel_rfl) (by kernel_rfl) (by kernel_rfl) (fun _ _ _ h => h) (Or.inl ⟨by kernel_rfl, ?_⟩) (by first | assumption | trivial) ?_
  rotate_left
  · intro w hSw
    try dsimp only at hSw
    first | (go_simp; done) | (go_simp; with_reducible rfl)
  try simp only [Act.put, List.getElem_toArray, List.getElem_cons_succ, List.getElem_cons_zero, List.setIfInBounds_toArray, List.set_cons_zero, List.set_cons_succ]
  refine wpAnyH_ready (rs := [4]) (by kernel_rfl) (by simp) ?_
  refine AllReadyH.cons rfl (fun K hK => ?_) AllReadyH.nil
  go_simp
  have HT2 := Lib.hid (HT1.out.alloc (.cells #[.int .i64 x.s, .int .i64 x.n, .int .i64 x.b, .int .i64 x.c, .int .i64 x.a, .int .i64 x.r, .int .i64 x.t, .int .i64 x.y] 64)).drew
  have HB2 := Lib.hid (oneB W1 (.cells #[.int .i64 x.s, .int .i64 x.n, .int .i64 x.b, .int .i64 x.c, .int .i64 x.a, .int .i64 x.r, .int .i64 x.t, .int .i64 x.y] 64)).drew
  have HX2 := Lib.hid (TRow.one_ encI x (Blk.new W1 #[.int .i64 x.s, .int .i64 x.n, .int .i64 x.b, .int .i64 x.c, .int .i64 x.a, .int .i64 x.r, .int .i64 x.t, .int .i64 x.y] 64).drew rfl (Nat.le_refl 1))
  generalize hW2 : (W1.alloc (.cells #[.int .i64 x.s, .int .i64 x.n, .int .i64 x.b, .int .i64 x.c, .int .i64 x.a, .int .i64 x.r, .int .i64 x.t, .int .i64 x.y] 64)).drew = W2 at *
  refine hK.out _ _ ⟨HT2.out.cell 0, HT2.out.cell 1, HT2.out.cell 2, HT2.out.cell 3, HT2.out.cell 4, HT2.out.cell 5, HT2.out.cell 6, HT2.out.cell 7⟩ (fun hS => ?_)
  clear hK K
  try simp only [Act.put, List.getElem_toArray, List.getElem_cons_succ, List.getElem_cons_zero, List.setIfInBounds_toArray, List.set_cons_zero, List.set_cons_succ]
  have HS2 : Hid (W2.heap.size = W1.heap.size + 1) := by show _ = _; rw [← hW2]; simp
  clear hW2
  refine wpAnyH_ready (rs := [6]) (by kernel_rfl) (by simp) ?_
  refine AllReadyH.cons rfl (fun K hK => ?_) AllReadyH.nil
  go_simp
  refine hK.out _ _ (by first | exact ⟨(HT2.out.alloc _).cell 0, (HT2.out.alloc _).cell 1, (HT2.out.alloc _).cell 2, (HT2.out.alloc _).cell 3, (HT2.out.alloc _).cell 4, (HT2.out.alloc _).cell 5, (HT2.out.alloc _).cell 6, (HT2.out.alloc _).cell 7⟩ | exact ⟨(HT2.out.alloc _).drew.cell 0, (HT2.out.alloc _).drew.cell 1, (HT2.out.alloc _).drew.cell 2, (HT2.out.alloc _).drew.cell 3, (HT2.out.alloc _).drew.cell 4, (HT2.out.alloc _).drew.cell 5, (HT2.out.alloc _).drew.cell 6, (HT2.out.alloc _).drew.cell 7⟩) (fun hS => ?_)
  clear hK K
  try simp only [Act.put, List.getElem_toArray, List.getElem_cons_succ, List.getElem_cons_zero, List.setIfInBounds_toArray, List.set_cons_zero, List.set_cons_succ]
  refine wpAnyH_ready (rs := [7]) (by kernel_rfl) (by simp) ?_
  refine AllReadyH.cons rfl (fun K hK => ?_) AllReadyH.nil
  go_simp
  go_at_call 77
  refine (concat3I _ _ _ _ _ A B x _ (Blk.new' W2 _ _ rfl) ((HA2.out.kept HB2.out).kept (oneB W2 _)) (HX2.out.kept (oneB W2 _)) ?hC hbl).mono ?_
  case hC =>
    refine TRow.kept ?_ (oneB W2 _)
    rw [← HBD.out]
    have hlen : _ = _ := HLEN.out
    exact (HRW.out.kept HB2.out).tail (A.length + 0) (by omega) (by omega) (by omega) (fun b' o' e h => by first | (cases e; simp; done) | (cases e; simp; rw [addAt]; done) | (cases e; simp; omega) | (subst e; simp; omega) | (subst e; simp; rw [addAt]; done) | omega)
  rintro y w3 ⟨v3, rfl, ho3, hb3⟩
  have HO3 := Lib.hid ho3
  have HB3 := Lib.hid ((HB2.out.trans ((oneB W2 _).mono HB2.out.size)).trans (hb3.mono (by have := HS2.out; simp; omega)))
  clear ho3 hb3
  try go_wp2_with fail
  refine hK.out _ _ (⟨(HT1.out.below HB3.out HT1.out.lt).cell 0, (HT1.out.below HB3.out HT1.out.lt).cell 1, (HT1.out.below HB3.out HT1.out.lt).cell 2, (HT1.out.below HB3.out HT1.out.lt).cell 3, (HT1.out.below HB3.out HT1.out.lt).cell 4, (HT1.out.below HB3.out HT1.out.lt).cell 5, (HT1.out.below HB3.out HT1.out.lt).cell 6, (HT1.out.below HB3.out HT1.out.lt).cell 7⟩) (fun hS => ?_)
  clear hK K
  try simp only [Act.put, List.getElem_toArray, List.getElem_cons_succ, List.getElem_cons_zero, List.setIfInBounds_toArray, List.set_cons_zero, List.set_cons_succ]
  refine wpAnyH_take (i := 8) (v := ?_) rfl (by kernel_rfl) (by kernel_rfl) (by kernel_rfl) (fun _ _ _ h => h) (Or.inl ⟨by kernel_rfl, ?_⟩) (by first | assumption | trivial) ?_
  rotate_left
  · intro w hSw
    try dsimp only at hSw
    first | (go_simp; done) | (go_simp; with_reducible rfl)
  try simp only [Act.put, List.getElem_toArray, List.getElem_cons_succ, List.getElem_cons_zero, List.setIfInBounds_toArray, List.set_cons_zero, List.set_cons_succ]
  refine wpAnyH_done (by kernel_rfl) ?_ _
  obtain ⟨p3, c3, hv3⟩ := HO3.out.form
  generalize (A ++ [x] ++ B).length = n3 at hv3
  subst hv3
  go_wp2_with fail
  go_ret
  exact ⟨_, rfl, HO3.out.less (by have := HS2.out; have := HB1.out.size; simp; omega), HB1.out.trans (HB3.out.mono HB1.out.size)⟩
set_option linter.unusedSimpArgs false in
set_option maxHeartbeats 4000000 in
set_option maxRecDepth 100000 in
theorem withI_no (w : World) (pv : Option Addr) (cv : Nat) (xs A B : List Itm) (x : Itm) (hr : TRow encI w (.slice pv xs.length cv) xs) (hall : xs = A ++ [] ++ B) (hn : xs.length ≤ 2000) (hcv : ¬ cv - A.length = 0) :
    Calls Try.prog 74 #[.slice pv xs.length cv, .int .i64 A.length, .bool false, x.v] w fun e w' => ∃ v', e = .returned v' ∧ OwnT encI w' w.heap.size 64 v' (A ++ [x] ++ B) ∧ Below w.heap.size w w' := by
  have hlen : xs.length = A.length + 0 + B.length := by rw [hall]; simp
  have hAt : xs.take A.length = A := by rw [hall, List.append_assoc, List.take_left]
  have hBd : xs.drop (A.length + 0) = B := by rw [hall, List.drop_left' (by simp)]
  have hpc : xs.length ≤ cv := hr.cap
  have HLEN := Lib.hid hlen
  have HR := Lib.hid hr
  have HAT := Lib.hid hAt
  have HBD := Lib.hid hBd
  clear hr hall hAt hBd
  unfold Itm.v
  have hcap1 : ((A.length : Nat) : Int) ≤ (xs.length : Int) := by omega
  have hcap2 : (xs.length : Int) ≤ (cv : Int) := by omega
  have hcap3 : ((A.length : Nat) : Int) ≤ (cv : Int) := by omega
  have hcn : A.length ≤ cv := by omega
  have hbl : A.length + B.length ≤ 5000 := by omega
  clear hlen
  go_enter Try.func74, Try.ntmps74
  go_wp2_with fail
  generalize hW1 : w.alloc (.cells #[.int .i64 x.s, .int .i64 x.n, .int .i64 x.b, .int .i64 x.c, .int .i64 x.a, .int .i64 x.r, .int .i64 x.t, .int .i64 x.y] 64) = W1
  have hB1 : Below w.heap.size w W1 := by rw [← hW1]; exact oneB w _
  have hT1 : Blk W1 w.heap.size #[.int .i64 x.s, .int .i64 x.n, .int .i64 x.b, .int .i64 x.c, .int .i64 x.a, .int .i64 x.r, .int .i64 x.t, .int .i64 x.y] 64 := by rw [← hW1]; exact Blk.new w _ _
  have HB1 := Lib.hid hB1
  have HT1 := Lib.hid hT1
  have HRW := Lib.hid (HR.out.kept hB1)
  have ha2 := HRW.out.take A.length (by omega)
  rw [HAT.out] at ha2
  have HA2 := Lib.hid ha2
  clear hW1 hB1 hT1 ha2 HR
  refine wp_region_held_drew (S := fun w' => w'.cell? ⟨w.heap.size, 0, none⟩ = some (.int .i64 x.s) ∧ w'.cell? ⟨w.heap.size, 1, none⟩ = some (.int .i64 x.n) ∧ w'.cell? ⟨w.heap.size, 2, none⟩ = some (.int .i64 x.b) ∧ w'.cell? ⟨w.heap.size, 3, none⟩ = some (.int .i64 x.c) ∧ w'.cell? ⟨w.heap.size, 4, none⟩ = some (.int .i64 x.a) ∧ w'.cell? ⟨w.heap.size, 5, none⟩ = some (.int .i64 x.r) ∧ w'.cell? ⟨w.heap.size, 6, none⟩ = some (.int .i64 x.t) ∧ w'.cell? ⟨w.heap.size, 7, none⟩ = some (.int .i64 x.y)) (by kernel_rfl) ⟨HT1.out.cell 0, HT1.out.cell 1, HT1.out.cell 2, HT1.out.cell 3, HT1.out.cell 4, HT1.out.cell 5, HT1.out.cell 6, HT1.out.cell 7⟩ (fun hS0 => ?_)
  refine wpAnyH_take (i := 0) (v := ?_) rfl (by kernel_rfl) (by kernel_rfl) (by kernel_rfl) (fun _ _ _ h => h) (Or.inl ⟨by kernel_rfl, ?_⟩) (by first | assumption | trivial) ?_
  rotate_left
  · intro w hSw
    try dsimp only at hSw
    first | (go_simp; done) | (go_simp; with_reducible rfl)
  try simp only [Act.put, List.getElem_toArray, List.getElem_cons_succ, List.getElem_cons_zero, List.setIfInBounds_toArray, List.set_cons_zero, List.set_cons_succ]
  refine wpAnyH_take (i := 1) (v := ?_) rfl (by kernel_rfl) (by kernel_rfl) (by kernel_rfl) (fun _ _ _ h => h) (Or.inl ⟨by kernel_rfl, ?_⟩) (by first | assumption | trivial) ?_
  rotate_left
  · intro w hSw
    try dsimp only at hSw
    first | (go_simp; done) | (go_simp; with_reducible rfl)
  try simp only [Act.put, List.getElem_toArray, List.getElem_cons_succ, List.getElem_cons_zero, List.setIfInBounds_toArray, List.set_cons_zero, List.set_cons_succ]
  refine wpAnyH_take (i := 2) (v := ?_) rfl (by kernel_rfl) (by kernel_rfl) (by kernel_rfl) (fun _ _ _ h => h) (Or.inl ⟨by kernel_rfl, ?_⟩) (by first | assumption | trivial) ?_
  rotate_left
  · intro w hSw
    try dsimp only at hSw
    first | (go_simp; done) | (go_simp; with_reducible rfl)
  try simp only [Act.put, List.getElem_toArray, List.getElem_cons_succ, List.getElem_cons_zero, List.setIfInBounds_toArray, List.set_cons_zero, List.set_cons_succ]
  refine wpAnyH_take (i := 3) (v := ?_) rfl (by kernel_rfl) (by kernel_rfl) (by kernel_rfl) (fun _ _ _ h => h) (Or.inl ⟨by kernel_rfl, ?_⟩) (by first | assumption | trivial) ?_
  rotate_left
  · intro w hSw
    try dsimp only at hSw
    first | (go_simp; done) | (go_simp; with_reducible rfl)
  try simp only [Act.put, List.getElem_toArray, List.getElem_cons_succ, List.getElem_cons_zero, List.setIfInBounds_toArray, List.set_cons_zero, List.set_cons_succ]
  refine wpAnyH_take (i := 5) (v := ?_) rfl (by kernel_rfl) (by kernel_rfl) (by kernel_rfl) (fun _ _ _ h => h) (Or.inl ⟨by kernel_rfl, ?_⟩) (by first | assumption | trivial) ?_
  rotate_left
  · intro w hSw
    try dsimp only at hSw
    first | (go_simp; done) | (go_simp; with_reducible rfl)
  try simp only [Act.put, List.getElem_toArray, List.getElem_cons_succ, List.getElem_cons_zero, List.setIfInBounds_toArray, List.set_cons_zero, List.set_cons_succ]
  refine wpAnyH_ready (rs := [4]) (by kernel_rfl) (by simp) ?_
  refine AllReadyH.cons rfl (fun K hK => ?_) AllReadyH.nil
  go_simp
  have HT2 := Lib.hid (HT1.out.alloc (.cells #[.int .i64 x.s, .int .i64 x.n, .int .i64 x.b, .int .i64 x.c, .int .i64 x.a, .int .i64 x.r, .int .i64 x.t, .int .i64 x.y] 64)).drew
  have HB2 := Lib.hid (oneB W1 (.cells #[.int .i64 x.s, .int .i64 x.n, .int .i64 x.b, .int .i64 x.c, .int .i64 x.a, .int .i64 x.r, .int .i64 x.t, .int .i64 x.y] 64)).drew
  have HX2 := Lib.hid (TRow.one_ encI x (Blk.new W1 #[.int .i64 x.s, .int .i64 x.n, .int .i64 x.b, .int .i64 x.c, .int .i64 x.a, .int .i64 x.r, .int .i64 x.t, .int .i64 x.y] 64).drew rfl (Nat.le_refl 1))
  generalize hW2 : (W1.alloc (.cells #[.int .i64 x.s, .int .i64 x.n, .int .i64 x.b, .int .i64 x.c, .int .i64 x.a, .int .i64 x.r, .int .i64 x.t, .int .i64 x.y] 64)).drew = W2 at *
  refine hK.out _ _ ⟨HT2.out.cell 0, HT2.out.cell 1, HT2.out.cell 2, HT2.out.cell 3, HT2.out.cell 4, HT2.out.cell 5, HT2.out.cell 6, HT2.out.cell 7⟩ (fun hS => ?_)
  clear hK K
  try simp only [Act.put, List.getElem_toArray, List.getElem_cons_succ, List.getElem_cons_zero, List.setIfInBounds_toArray, List.set_cons_zero, List.set_cons_succ]
  have HS2 : Hid (W2.heap.size = W1.heap.size + 1) := by show _ = _; rw [← hW2]; simp
  clear hW2
  refine wpAnyH_ready (rs := [6]) (by kernel_rfl) (by simp) ?_
  refine AllReadyH.cons rfl (fun K hK => ?_) AllReadyH.nil
  go_simp
  refine hK.out _ _ (by first | exact ⟨(HT2.out.alloc _).cell 0, (HT2.out.alloc _).cell 1, (HT2.out.alloc _).cell 2, (HT2.out.alloc _).cell 3, (HT2.out.alloc _).cell 4, (HT2.out.alloc _).cell 5, (HT2.out.alloc _).cell 6, (HT2.out.alloc _).cell 7⟩ | exact ⟨(HT2.out.alloc _).drew.cell 0, (HT2.out.alloc _).drew.cell 1, (HT2.out.alloc _).drew.cell 2, (HT2.out.alloc _).drew.cell 3, (HT2.out.alloc _).drew.cell 4, (HT2.out.alloc _).drew.cell 5, (HT2.out.alloc _).drew.cell 6, (HT2.out.alloc _).drew.cell 7⟩) (fun hS => ?_)
  clear hK K
  try simp only [Act.put, List.getElem_toArray, List.getElem_cons_succ, List.getElem_cons_zero, List.setIfInBounds_toArray, List.set_cons_zero, List.set_cons_succ]
  refine wpAnyH_ready (rs := [7]) (by kernel_rfl) (by simp) ?_
  refine AllReadyH.cons rfl (fun K hK => ?_) AllReadyH.nil
  go_simp
  go_at_call 77
  refine (concat3I _ _ _ _ _ A B x _ (Blk.new' W2 _ _ rfl) ((HA2.out.kept HB2.out).kept (oneB W2 _)) (HX2.out.kept (oneB W2 _)) ?hC hbl).mono ?_
  case hC =>
    refine TRow.kept ?_ (oneB W2 _)
    rw [← HBD.out]
    have hlen : _ = _ := HLEN.out
    exact (HRW.out.kept HB2.out).tail (A.length + 0) (by omega) (by omega) (by omega) (fun b' o' e h => by first | (cases e; simp; done) | (cases e; simp; rw [addAt]; done) | (cases e; simp; omega) | (subst e; simp; omega) | (subst e; simp; rw [addAt]; done) | omega)
  rintro y w3 ⟨v3, rfl, ho3, hb3⟩
  have HO3 := Lib.hid ho3
  have HB3 := Lib.hid ((HB2.out.trans ((oneB W2 _).mono HB2.out.size)).trans (hb3.mono (by have := HS2.out; simp; omega)))
  clear ho3 hb3
  try go_wp2_with fail
  refine hK.out _ _ (⟨(HT1.out.below HB3.out HT1.out.lt).cell 0, (HT1.out.below HB3.out HT1.out.lt).cell 1, (HT1.out.below HB3.out HT1.out.lt).cell 2, (HT1.out.below HB3.out HT1.out.lt).cell 3, (HT1.out.below HB3.out HT1.out.lt).cell 4, (HT1.out.below HB3.out HT1.out.lt).cell 5, (HT1.out.below HB3.out HT1.out.lt).cell 6, (HT1.out.below HB3.out HT1.out.lt).cell 7⟩) (fun hS => ?_)
  clear hK K
  try simp only [Act.put, List.getElem_toArray, List.getElem_cons_succ, List.getElem_cons_zero, List.setIfInBounds_toArray, List.set_cons_zero, List.set_cons_succ]
  refine wpAnyH_take (i := 8) (v := ?_) rfl (by kernel_rfl) (by kernel_rfl) (by kernel_rfl) (fun _ _ _ h => h) (Or.inl ⟨by kernel_rfl, ?_⟩) (by first | assumption | trivial) ?_
  rotate_left
  · intro w hSw
    try dsimp only at hSw
    first | (go_simp; done) | (go_simp; with_reducible rfl)
  try simp only [Act.put, List.getElem_toArray, List.getElem_cons_succ, List.getElem_cons_zero, List.setIfInBounds_toArray, List.set_cons_zero, List.set_cons_succ]
  refine wpAnyH_done (by kernel_rfl) ?_ _
  obtain ⟨p3, c3, hv3⟩ := HO3.out.form
  generalize (A ++ [x] ++ B).length = n3 at hv3
  subst hv3
  go_wp2_with fail
  go_ret
  exact ⟨_, rfl, HO3.out.less (by have := HS2.out; have := HB1.out.size; simp; omega), HB1.out.trans (HB3.out.mono HB1.out.size)⟩
/-- Put in, in the place of what was there. -/
theorem withI_any (w : World) (v : Value) (xs A mid B : List Itm) (t : Pos) (x : Itm) (hr : TRow encI w v xs) (hA : AroundF posI t xs A mid B) (hn : xs.length ≤ 2000) :
    Calls Try.prog 74 #[v, .int .i64 A.length, .bool (decide (mid ≠ [])), x.v] w fun e w' => ∃ v', e = .returned v' ∧ OwnT encI w' w.heap.size 64 v' (A ++ [x] ++ B) ∧ Below w.heap.size w w' := by
  obtain ⟨pv, cv, rfl⟩ := hr.shape
  rcases hA.mid1 with rfl | ⟨q, rfl, _⟩
  · rw [show decide (([] : List Itm) ≠ []) = false by simp]
    by_cases hc : cv - A.length = 0
    · exact withI_nc w pv cv xs A B x hr hA.all hn hc
    · exact withI_no w pv cv xs A B x hr hA.all hn hc
  · rw [show decide (([q] : List Itm) ≠ []) = true by simp]
    by_cases hc : cv - A.length = 1
    · exact withI_fc w pv cv xs A B q x hr hA.all hn hc
    · exact withI_fo w pv cv xs A B q x hr hA.all hn hc
end Go.Proofs.Ytbpfbebebppleaa
