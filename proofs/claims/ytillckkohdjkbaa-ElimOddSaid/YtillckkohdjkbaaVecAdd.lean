/- Vector.Add, List by contract. -/
import Derived.Test.YtillckkohdjkbaaVecWith
import Derived.Test.YtillckkohdjkbaaSum
namespace Go.Proofs.Ytillckkohdjkbaa
open Go.RowKit
/-- Out of what the call takes. -/
def OutEC (e c : Int) : Prop := e < 0 ∨ 8 ≤ e ∨ c < 0 ∨ 8 ≤ c
instance (e c : Int) : Decidable (OutEC e c) := by unfold OutEC; infer_instance
def addE (e c m a : Int) : Int := if OutEC e c then 1 else sumE (m + a)
def addL (ps A B : List Pos) (e c m a : Int) : List Pos := if OutEC e c then ps else if Fits (m + a) then A ++ (if m + a = 0 then [] else [⟨e, c, m + a⟩]) ++ B else ps
theorem Around.other {e c x y : Int} {ps A mid B : List Pos} (h : Around ⟨e, c, x⟩ ps A mid B) : Around ⟨e, c, y⟩ ps A mid B := ⟨h.all, h.ahead, h.behind, h.there⟩
def AddPost (w : World) (ps A mid B : List Pos) (e c a : Int) (x : Ending) (w' : World) : Prop :=
  ∃ v', x = .returned (.tuple #[vecV v', .int .i64 (addE e c (midA mid) a)]) ∧ OwnP w' w.heap.size 77 v' (addL ps A B e c (midA mid) a) ∧ Below w.heap.size w w'
set_option maxHeartbeats 4000000 in
set_option maxRecDepth 100000 in
theorem add_o1 (w : World) (v : Value) (ps A mid B : List Pos) (e c a : Int) (hr : PRow w v ps) (hn : ps.length ≤ 1000) (h1 : e < 0) :
    Calls Try.prog 27 #[vecV v, .int .i64 e, .int .i64 c, .int .i64 a] w (AddPost w ps A mid B e c a) := by
  obtain ⟨pv, cv, rfl⟩ := hr.shape
  have hE : addE e c (midA mid) a = 1 := if_pos (.inl h1)
  have hL : addL ps A B e c (midA mid) a = ps := if_pos (.inl h1)
  unfold AddPost
  rw [hE, hL]
  clear hE hL
  have hW : Below w.heap.size w ((w.alloc (.cells #[.slice pv ps.length cv] 50)).alloc (.cells #[.slice none 0 0] 50)) := (oneB w _).alloc (by simp) _
  have HW := Lib.hid hW
  have HCL := Lib.hid (fun (w' : World) (hb : Below w.heap.size w w') => clone_vec w' _ ps (hr.kept hb) hn)
  have HRS := Lib.hid (Blk.new' (w.alloc (.cells #[.slice pv ps.length cv] 50)) #[.slice none 0 0] 50 (b := w.heap.size + 1) (by simp))
  have HVS := Lib.hid ((Blk.new w #[.slice pv ps.length cv] 50).alloc (.cells #[.slice none 0 0] 50))
  clear hW
  clear hr
  unfold vecV at *
  go_enter Try.func27, Try.ntmps27
  go_wp2_with fail
  refine (HCL.out _ HW.out).mono ?_
  rintro y w3 ⟨v3, rfl, ho3, hb3⟩
  obtain ⟨p3, c3, hv3⟩ := ho3.form
  generalize (ps).length = n3 at hv3
  subst hv3
  have hres := HRS.out.below hb3 HRS.out.lt
  have r0 : w3.cell? ⟨w.heap.size + 1, 0, none⟩ = some (.slice none 0 0) := hres.cell 0
  have fr0 := hres.free 0
  have lr := hres.lt
  have HO3 := Lib.hid ho3
  have HB := Lib.hid (HW.out.trans (hb3.mono HW.out.size))
  have HR3 := Lib.hid hres
  have HLT := Lib.hid HRS.out.lt
  clear ho3 hb3 hres
  go_wp2_with fail
  have hf := HR3.out.set 0 (.slice p3 n3 c3)
  refine bodyPost_ret (v := .tuple #[.agg #[.slice p3 n3 c3], .int .i64 (1)]) (by simp [results, Try.results27, go_sem, hf.cell 0]) rfl ⟨_, rfl, (HO3.out.setLow (show w.heap.size + 1 < _ from HLT.out) _).less (Nat.le_trans (Nat.le_succ _) (Nat.le_of_lt HLT.out)), HB.out.setCell (p := ⟨w.heap.size + 1, 0, none⟩) (Nat.le_succ _) _⟩
set_option maxHeartbeats 4000000 in
set_option maxRecDepth 100000 in
theorem add_o2 (w : World) (v : Value) (ps A mid B : List Pos) (e c a : Int) (hr : PRow w v ps) (hn : ps.length ≤ 1000) (h1 : 0 ≤ e) (h2 : 8 ≤ e) :
    Calls Try.prog 27 #[vecV v, .int .i64 e, .int .i64 c, .int .i64 a] w (AddPost w ps A mid B e c a) := by
  obtain ⟨pv, cv, rfl⟩ := hr.shape
  have hE : addE e c (midA mid) a = 1 := if_pos (.inr (.inl h2))
  have hL : addL ps A B e c (midA mid) a = ps := if_pos (.inr (.inl h2))
  unfold AddPost
  rw [hE, hL]
  clear hE hL
  have hW : Below w.heap.size w ((w.alloc (.cells #[.slice pv ps.length cv] 50)).alloc (.cells #[.slice none 0 0] 50)) := (oneB w _).alloc (by simp) _
  have HW := Lib.hid hW
  have HCL := Lib.hid (fun (w' : World) (hb : Below w.heap.size w w') => clone_vec w' _ ps (hr.kept hb) hn)
  have HRS := Lib.hid (Blk.new' (w.alloc (.cells #[.slice pv ps.length cv] 50)) #[.slice none 0 0] 50 (b := w.heap.size + 1) (by simp))
  have HVS := Lib.hid ((Blk.new w #[.slice pv ps.length cv] 50).alloc (.cells #[.slice none 0 0] 50))
  clear hW
  clear hr
  unfold vecV at *
  go_enter Try.func27, Try.ntmps27
  go_wp2_with fail
  refine (HCL.out _ HW.out).mono ?_
  rintro y w3 ⟨v3, rfl, ho3, hb3⟩
  obtain ⟨p3, c3, hv3⟩ := ho3.form
  generalize (ps).length = n3 at hv3
  subst hv3
  have hres := HRS.out.below hb3 HRS.out.lt
  have r0 : w3.cell? ⟨w.heap.size + 1, 0, none⟩ = some (.slice none 0 0) := hres.cell 0
  have fr0 := hres.free 0
  have lr := hres.lt
  have HO3 := Lib.hid ho3
  have HB := Lib.hid (HW.out.trans (hb3.mono HW.out.size))
  have HR3 := Lib.hid hres
  have HLT := Lib.hid HRS.out.lt
  clear ho3 hb3 hres
  go_wp2_with fail
  have hf := HR3.out.set 0 (.slice p3 n3 c3)
  refine bodyPost_ret (v := .tuple #[.agg #[.slice p3 n3 c3], .int .i64 (1)]) (by simp [results, Try.results27, go_sem, hf.cell 0]) rfl ⟨_, rfl, (HO3.out.setLow (show w.heap.size + 1 < _ from HLT.out) _).less (Nat.le_trans (Nat.le_succ _) (Nat.le_of_lt HLT.out)), HB.out.setCell (p := ⟨w.heap.size + 1, 0, none⟩) (Nat.le_succ _) _⟩
set_option maxHeartbeats 4000000 in
set_option maxRecDepth 100000 in
theorem add_o3 (w : World) (v : Value) (ps A mid B : List Pos) (e c a : Int) (hr : PRow w v ps) (hn : ps.length ≤ 1000) (h1 : 0 ≤ e) (h2 : e < 8) (h3 : c < 0) :
    Calls Try.prog 27 #[vecV v, .int .i64 e, .int .i64 c, .int .i64 a] w (AddPost w ps A mid B e c a) := by
  obtain ⟨pv, cv, rfl⟩ := hr.shape
  have hE : addE e c (midA mid) a = 1 := if_pos (.inr (.inr (.inl h3)))
  have hL : addL ps A B e c (midA mid) a = ps := if_pos (.inr (.inr (.inl h3)))
  unfold AddPost
  rw [hE, hL]
  clear hE hL
  have hW : Below w.heap.size w ((w.alloc (.cells #[.slice pv ps.length cv] 50)).alloc (.cells #[.slice none 0 0] 50)) := (oneB w _).alloc (by simp) _
  have HW := Lib.hid hW
  have HCL := Lib.hid (fun (w' : World) (hb : Below w.heap.size w w') => clone_vec w' _ ps (hr.kept hb) hn)
  have HRS := Lib.hid (Blk.new' (w.alloc (.cells #[.slice pv ps.length cv] 50)) #[.slice none 0 0] 50 (b := w.heap.size + 1) (by simp))
  have HVS := Lib.hid ((Blk.new w #[.slice pv ps.length cv] 50).alloc (.cells #[.slice none 0 0] 50))
  clear hW
  clear hr
  unfold vecV at *
  go_enter Try.func27, Try.ntmps27
  go_wp2_with fail
  refine (HCL.out _ HW.out).mono ?_
  rintro y w3 ⟨v3, rfl, ho3, hb3⟩
  obtain ⟨p3, c3, hv3⟩ := ho3.form
  generalize (ps).length = n3 at hv3
  subst hv3
  have hres := HRS.out.below hb3 HRS.out.lt
  have r0 : w3.cell? ⟨w.heap.size + 1, 0, none⟩ = some (.slice none 0 0) := hres.cell 0
  have fr0 := hres.free 0
  have lr := hres.lt
  have HO3 := Lib.hid ho3
  have HB := Lib.hid (HW.out.trans (hb3.mono HW.out.size))
  have HR3 := Lib.hid hres
  have HLT := Lib.hid HRS.out.lt
  clear ho3 hb3 hres
  go_wp2_with fail
  have hf := HR3.out.set 0 (.slice p3 n3 c3)
  refine bodyPost_ret (v := .tuple #[.agg #[.slice p3 n3 c3], .int .i64 (1)]) (by simp [results, Try.results27, go_sem, hf.cell 0]) rfl ⟨_, rfl, (HO3.out.setLow (show w.heap.size + 1 < _ from HLT.out) _).less (Nat.le_trans (Nat.le_succ _) (Nat.le_of_lt HLT.out)), HB.out.setCell (p := ⟨w.heap.size + 1, 0, none⟩) (Nat.le_succ _) _⟩
set_option maxHeartbeats 4000000 in
set_option maxRecDepth 100000 in
theorem add_o4 (w : World) (v : Value) (ps A mid B : List Pos) (e c a : Int) (hr : PRow w v ps) (hn : ps.length ≤ 1000) (h1 : 0 ≤ e) (h2 : e < 8) (h3 : 0 ≤ c) (h4 : 8 ≤ c) :
    Calls Try.prog 27 #[vecV v, .int .i64 e, .int .i64 c, .int .i64 a] w (AddPost w ps A mid B e c a) := by
  obtain ⟨pv, cv, rfl⟩ := hr.shape
  have hE : addE e c (midA mid) a = 1 := if_pos (.inr (.inr (.inr h4)))
  have hL : addL ps A B e c (midA mid) a = ps := if_pos (.inr (.inr (.inr h4)))
  unfold AddPost
  rw [hE, hL]
  clear hE hL
  have hW : Below w.heap.size w ((w.alloc (.cells #[.slice pv ps.length cv] 50)).alloc (.cells #[.slice none 0 0] 50)) := (oneB w _).alloc (by simp) _
  have HW := Lib.hid hW
  have HCL := Lib.hid (fun (w' : World) (hb : Below w.heap.size w w') => clone_vec w' _ ps (hr.kept hb) hn)
  have HRS := Lib.hid (Blk.new' (w.alloc (.cells #[.slice pv ps.length cv] 50)) #[.slice none 0 0] 50 (b := w.heap.size + 1) (by simp))
  have HVS := Lib.hid ((Blk.new w #[.slice pv ps.length cv] 50).alloc (.cells #[.slice none 0 0] 50))
  clear hW
  clear hr
  unfold vecV at *
  go_enter Try.func27, Try.ntmps27
  go_wp2_with fail
  refine (HCL.out _ HW.out).mono ?_
  rintro y w3 ⟨v3, rfl, ho3, hb3⟩
  obtain ⟨p3, c3, hv3⟩ := ho3.form
  generalize (ps).length = n3 at hv3
  subst hv3
  have hres := HRS.out.below hb3 HRS.out.lt
  have r0 : w3.cell? ⟨w.heap.size + 1, 0, none⟩ = some (.slice none 0 0) := hres.cell 0
  have fr0 := hres.free 0
  have lr := hres.lt
  have HO3 := Lib.hid ho3
  have HB := Lib.hid (HW.out.trans (hb3.mono HW.out.size))
  have HR3 := Lib.hid hres
  have HLT := Lib.hid HRS.out.lt
  clear ho3 hb3 hres
  go_wp2_with fail
  have hf := HR3.out.set 0 (.slice p3 n3 c3)
  refine bodyPost_ret (v := .tuple #[.agg #[.slice p3 n3 c3], .int .i64 (1)]) (by simp [results, Try.results27, go_sem, hf.cell 0]) rfl ⟨_, rfl, (HO3.out.setLow (show w.heap.size + 1 < _ from HLT.out) _).less (Nat.le_trans (Nat.le_succ _) (Nat.le_of_lt HLT.out)), HB.out.setCell (p := ⟨w.heap.size + 1, 0, none⟩) (Nat.le_succ _) _⟩
set_option maxHeartbeats 4000000 in
set_option maxRecDepth 100000 in
theorem add_no (w : World) (v : Value) (ps A mid B : List Pos) (e c a : Int) (hr : PRow w v ps) (hA : Around ⟨e, c, 0⟩ ps A mid B) (hn : ps.length ≤ 1000) (hm : Fits (midA mid)) (ha : Fits a) (h1 : 0 ≤ e) (h2 : e < 8) (h3 : 0 ≤ c) (h4 : c < 8) (hs : ¬ Fits (midA mid + a)) :
    Calls Try.prog 27 #[vecV v, .int .i64 e, .int .i64 c, .int .i64 a] w (AddPost w ps A mid B e c a) := by
  obtain ⟨pv, cv, rfl⟩ := hr.shape
  have hno : ¬ OutEC e c := by unfold OutEC; omega
  have hE : addE e c (midA mid) a = 10 := (if_neg hno).trans (sumE_no hs)
  have hL : addL ps A B e c (midA mid) a = ps := (if_neg hno).trans (if_neg hs)
  unfold AddPost
  rw [hE, hL]
  clear hE hL hno
  have hW : Below w.heap.size w ((w.alloc (.cells #[.slice pv ps.length cv] 50)).alloc (.cells #[.slice none 0 0] 50)) := (oneB w _).alloc (by simp) _
  have HW := Lib.hid hW
  have HCL := Lib.hid (fun (w' : World) (hb : Below w.heap.size w w') => clone_vec w' _ ps (hr.kept hb) hn)
  have HRS := Lib.hid (Blk.new' (w.alloc (.cells #[.slice pv ps.length cv] 50)) #[.slice none 0 0] 50 (b := w.heap.size + 1) (by simp))
  have HVS := Lib.hid ((Blk.new w #[.slice pv ps.length cv] 50).alloc (.cells #[.slice none 0 0] 50))
  clear hW
  have HOF := Lib.hid (fun (w' : World) (hb : Below w.heap.size w w') => of_any w' _ ps A mid B e c (hr.kept hb) hA hn)
  have HAD := Lib.hid (fun (w' : World) => add_any (midA mid) a w' hm ha)
  rw [sumN_no hs, sumE_no hs] at HAD
  clear hr hA hm ha hs
  generalize midA mid = m at *
  unfold vecV at *
  go_enter Try.func27, Try.ntmps27
  go_wp2_with fail
  refine (HOF.out _ HW.out).mono ?_
  rintro y wa ⟨rfl, hba⟩
  have hrs := HRS.out.below hba HRS.out.lt
  have hvs := HVS.out.below hba HVS.out.lt
  have HBA := Lib.hid (HW.out.trans (hba.mono HW.out.size))
  clear hba
  go_wp2_with fail
  refine (HAD.out wa).mono ?_
  rintro y wb ⟨rfl, hbb⟩
  have HRB := Lib.hid (hrs.below hbb hrs.lt)
  have hvb := hvs.below hbb hvs.lt
  have v0 : wb.cell? ⟨w.heap.size, 0, none⟩ = some (.slice pv ps.length cv) := hvb.cell 0
  have HBB := Lib.hid (HBA.out.trans (hbb.mono HBA.out.size))
  clear hrs hvs hbb hvb
  go_wp2_with fail
  refine (HCL.out _ HBB.out).mono ?_
  rintro y w3 ⟨v3, rfl, ho3, hb3⟩
  obtain ⟨p3, c3, hv3⟩ := ho3.form
  generalize (ps).length = n3 at hv3
  subst hv3
  have hres := HRB.out.below hb3 HRB.out.lt
  have r0 : w3.cell? ⟨w.heap.size + 1, 0, none⟩ = some (.slice none 0 0) := hres.cell 0
  have fr0 := hres.free 0
  have lr := hres.lt
  have HO3 := Lib.hid ho3
  have HB := Lib.hid (HBB.out.trans (hb3.mono HBB.out.size))
  have HR3 := Lib.hid hres
  have HLT := Lib.hid HRB.out.lt
  clear ho3 hb3 hres
  go_wp2_with fail
  have hf := HR3.out.set 0 (.slice p3 n3 c3)
  refine bodyPost_ret (v := .tuple #[.agg #[.slice p3 n3 c3], .int .i64 (10)]) (by simp [results, Try.results27, go_sem, hf.cell 0]) rfl ⟨_, rfl, (HO3.out.setLow (show w.heap.size + 1 < _ from HLT.out) _).less (Nat.le_trans (Nat.le_succ _) (Nat.le_of_lt HLT.out)), HB.out.setCell (p := ⟨w.heap.size + 1, 0, none⟩) (Nat.le_succ _) _⟩
set_option maxHeartbeats 4000000 in
set_option maxRecDepth 100000 in
theorem add_yes (w : World) (v : Value) (ps A mid B : List Pos) (e c a : Int) (hr : PRow w v ps) (hA : Around ⟨e, c, 0⟩ ps A mid B) (hn : ps.length ≤ 1000) (hm : Fits (midA mid)) (ha : Fits a) (h1 : 0 ≤ e) (h2 : e < 8) (h3 : 0 ≤ c) (h4 : c < 8) (hs : Fits (midA mid + a)) :
    Calls Try.prog 27 #[vecV v, .int .i64 e, .int .i64 c, .int .i64 a] w (AddPost w ps A mid B e c a) := by
  obtain ⟨pv, cv, rfl⟩ := hr.shape
  have hno : ¬ OutEC e c := by unfold OutEC; omega
  have hE : addE e c (midA mid) a = 0 := (if_neg hno).trans (sumE_yes hs)
  have hL : addL ps A B e c (midA mid) a = A ++ (if midA mid + a = 0 then [] else [⟨e, c, midA mid + a⟩]) ++ B := (if_neg hno).trans (if_pos hs)
  unfold AddPost
  rw [hE, hL]
  clear hE hL hno
  have hW : Below w.heap.size w ((w.alloc (.cells #[.slice pv ps.length cv] 50)).alloc (.cells #[.slice none 0 0] 50)) := (oneB w _).alloc (by simp) _
  have HW := Lib.hid hW
  have HCL := Lib.hid (fun (w' : World) (hb : Below w.heap.size w w') => clone_vec w' _ ps (hr.kept hb) hn)
  have HRS := Lib.hid (Blk.new' (w.alloc (.cells #[.slice pv ps.length cv] 50)) #[.slice none 0 0] 50 (b := w.heap.size + 1) (by simp))
  have HVS := Lib.hid ((Blk.new w #[.slice pv ps.length cv] 50).alloc (.cells #[.slice none 0 0] 50))
  clear hW
  have HOF := Lib.hid (fun (w' : World) (hb : Below w.heap.size w w') => of_any w' _ ps A mid B e c (hr.kept hb) hA hn)
  have HWI := Lib.hid (fun (w' : World) (hb : Below w.heap.size w w') => with_any w' _ ps A mid B ⟨e, c, midA mid + a⟩ (hr.kept hb) hA.other hn)
  dsimp only at HWI
  generalize A ++ (if midA mid + a = 0 then [] else [Pos.mk e c (midA mid + a)]) ++ B = Lx at HWI ⊢
  have HAD := Lib.hid (fun (w' : World) => add_any (midA mid) a w' hm ha)
  rw [sumN_yes hs, sumE_yes hs] at HAD
  clear hr hA hm ha hs
  generalize midA mid = m at *
  unfold vecV posV at *
  go_enter Try.func27, Try.ntmps27
  go_wp2_with fail
  refine (HOF.out _ HW.out).mono ?_
  rintro y wa ⟨rfl, hba⟩
  have hrs := HRS.out.below hba HRS.out.lt
  have hvs := HVS.out.below hba HVS.out.lt
  have HBA := Lib.hid (HW.out.trans (hba.mono HW.out.size))
  clear hba
  go_wp2_with fail
  refine (HAD.out wa).mono ?_
  rintro y wb ⟨rfl, hbb⟩
  have HRB := Lib.hid (hrs.below hbb hrs.lt)
  have hvb := hvs.below hbb hvs.lt
  have v0 : wb.cell? ⟨w.heap.size, 0, none⟩ = some (.slice pv ps.length cv) := hvb.cell 0
  have HBB := Lib.hid (HBA.out.trans (hbb.mono HBA.out.size))
  clear hrs hvs hbb hvb
  go_wp2_with fail
  refine (HWI.out _ HBB.out).mono ?_
  rintro y w3 ⟨v3, rfl, ho3, hb3⟩
  obtain ⟨p3, c3, hv3⟩ := ho3.form
  generalize (Lx).length = n3 at hv3
  subst hv3
  have hres := HRB.out.below hb3 HRB.out.lt
  have r0 : w3.cell? ⟨w.heap.size + 1, 0, none⟩ = some (.slice none 0 0) := hres.cell 0
  have fr0 := hres.free 0
  have lr := hres.lt
  have HO3 := Lib.hid ho3
  have HB := Lib.hid (HBB.out.trans (hb3.mono HBB.out.size))
  have HR3 := Lib.hid hres
  have HLT := Lib.hid HRB.out.lt
  clear ho3 hb3 hres
  go_wp2_with fail
  have hf := HR3.out.set 0 (.slice p3 n3 c3)
  refine bodyPost_ret (v := .tuple #[.agg #[.slice p3 n3 c3], .int .i64 (0)]) (by simp [results, Try.results27, go_sem, hf.cell 0]) rfl ⟨_, rfl, (HO3.out.setLow (show w.heap.size + 1 < _ from HLT.out) _).less (Nat.le_trans (Nat.le_succ _) (Nat.le_of_lt HLT.out)), HB.out.setCell (p := ⟨w.heap.size + 1, 0, none⟩) (Nat.le_succ _) _⟩
/-- Anything put to a vector. -/
theorem vadd_any (w : World) (v : Value) (ps A mid B : List Pos) (e c a : Int) (hr : PRow w v ps) (hA : Around ⟨e, c, 0⟩ ps A mid B) (hn : ps.length ≤ 1000) (hm : Fits (midA mid)) (ha : Fits a) :
    Calls Try.prog 27 #[vecV v, .int .i64 e, .int .i64 c, .int .i64 a] w (AddPost w ps A mid B e c a) := by
  by_cases h1 : e < 0
  · exact add_o1 w v ps A mid B e c a hr hn h1
  by_cases h2 : 8 ≤ e
  · exact add_o2 w v ps A mid B e c a hr hn (by omega) h2
  by_cases h3 : c < 0
  · exact add_o3 w v ps A mid B e c a hr hn (by omega) (by omega) h3
  by_cases h4 : 8 ≤ c
  · exact add_o4 w v ps A mid B e c a hr hn (by omega) (by omega) (by omega) h4
  by_cases hs : Fits (midA mid + a)
  · exact add_yes w v ps A mid B e c a hr hA hn hm ha (by omega) (by omega) (by omega) (by omega) hs
  · exact add_no w v ps A mid B e c a hr hA hn hm ha (by omega) (by omega) (by omega) (by omega) hs
end Go.Proofs.Ytillckkohdjkbaa
