/- contraref01.Parse, of texts of another form; and of every text. -/
import Derived.Test.YtgdcegkokbkdfaaDoorRefParseM
import Derived.Test.YtgdcegkokbkdfaaDoorScan
namespace Go.Proofs.YtgdcegkokbkdfaaDoor
open Go.RowKit Go.Lib
theorem notEmpty {s : ByteArray} (h : 0 < s.size) : s.toList.isEmpty = false := by
  rw [ByteArray.toList_eq]; cases h' : s.data.toList with
  | nil => have : s.data.toList.length = s.size := by cases s; rfl
           rw [h'] at this; simp at this; omega
  | cons => rfl
theorem isEmpty {s : ByteArray} (h : s.size = 0) : s.toList.isEmpty = true := by
  rw [ByteArray.toList_eq]; cases h' : s.data.toList with
  | nil => rfl
  | cons => have : s.data.toList.length = s.size := by cases s; rfl
            rw [h'] at this; simp at this; omega

set_option maxHeartbeats 2000000 in
set_option maxRecDepth 100000 in
theorem refparse_empty (s : ByteArray) (w : World) (_hs : s.size ≤ 300) (h0 : s.size = 0) :
    Calls Tryd.prog 22 #[.string s] w fun e w' => e = .returned (.tuple #[.int .i64 0, .int .i64 41]) ∧ Below w.heap.size w w' := by
  have hE := isEmpty h0
  go_enter Tryd.func22, Tryd.ntmps22
  go_wp2
  all_goals
    go_ret2
    exact ⟨rfl, oneB _ _⟩

set_option maxHeartbeats 2000000 in
set_option maxRecDepth 100000 in
theorem refparse_p1 (s : ByteArray) (w : World) (hs : s.size ≤ 300) (hp : 1 ≤ s.size) (h45 : ((((s[0]'(by omega)).toNat : Int) == 45) = false)) (h4 : s.size < 4) :
    Calls Tryd.prog 22 #[.string s] w fun e w' => e = .returned (.tuple #[.int .i64 0, .int .i64 41]) ∧ Below w.heap.size w w' := by
  have hE := notEmpty (s := s) (by omega)
  go_enter Tryd.func22, Tryd.ntmps22
  go_wp2
  all_goals
    go_ret2
    exact ⟨rfl, oneB _ _⟩

set_option maxHeartbeats 2000000 in
set_option maxRecDepth 100000 in
theorem refparse_p2 (s : ByteArray) (w : World) (hs : s.size ≤ 300) (hp : 1 ≤ s.size) (h45 : ((((s[0]'(by omega)).toNat : Int) == 45) = false)) (h4 : 4 ≤ s.size) (h46 : ((((s[s.size - 3]'(by omega)).toNat : Int) == 46) = false)) :
    Calls Tryd.prog 22 #[.string s] w fun e w' => e = .returned (.tuple #[.int .i64 0, .int .i64 41]) ∧ Below w.heap.size w w' := by
  have hE := notEmpty (s := s) (by omega)
  have h46' : (((s[s.size - 3]'(by omega)).toNat : Int) != 46) = true := by rw [bne, h46]; rfl
  go_enter Tryd.func22, Tryd.ntmps22
  go_wp2
  all_goals
    go_ret2
    exact ⟨rfl, oneB _ _⟩

set_option maxHeartbeats 2000000 in
set_option maxRecDepth 100000 in
theorem refparse_p3 (s : ByteArray) (w : World) (hs : s.size ≤ 300) (hp : 1 ≤ s.size) (h45 : ((((s[0]'(by omega)).toNat : Int) == 45) = false)) (h4 : 4 < s.size) (h46 : (s[s.size - 3]'(by omega)).toNat = 46) (h48 : ((((s[0]'(by omega)).toNat : Int) == 48) = true)) :
    Calls Tryd.prog 22 #[.string s] w fun e w' => e = .returned (.tuple #[.int .i64 0, .int .i64 41]) ∧ Below w.heap.size w w' := by
  have hE := notEmpty (s := s) (by omega)
  go_enter Tryd.func22, Tryd.ntmps22
  go_wp2
  all_goals
    go_ret2
    exact ⟨rfl, oneB _ _⟩

set_option maxHeartbeats 2000000 in
set_option maxRecDepth 100000 in
theorem refparse_m1 (s : ByteArray) (w : World) (hs : s.size ≤ 300) (hp : 1 ≤ s.size) (h45 : ((((s[0]'(by omega)).toNat : Int) == 45) = true)) (h4 : s.size < 5) :
    Calls Tryd.prog 22 #[.string s] w fun e w' => e = .returned (.tuple #[.int .i64 0, .int .i64 41]) ∧ Below w.heap.size w w' := by
  have hE := notEmpty (s := s) (by omega)
  go_enter Tryd.func22, Tryd.ntmps22
  go_wp2
  all_goals
    go_ret2
    exact ⟨rfl, oneB _ _⟩

set_option maxHeartbeats 2000000 in
set_option maxRecDepth 100000 in
theorem refparse_m2 (s : ByteArray) (w : World) (hs : s.size ≤ 300) (hp : 1 ≤ s.size) (h45 : ((((s[0]'(by omega)).toNat : Int) == 45) = true)) (h4 : 5 ≤ s.size) (h46 : ((((s[s.size - 3]'(by omega)).toNat : Int) == 46) = false)) :
    Calls Tryd.prog 22 #[.string s] w fun e w' => e = .returned (.tuple #[.int .i64 0, .int .i64 41]) ∧ Below w.heap.size w w' := by
  have hE := notEmpty (s := s) (by omega)
  have h46' : (((s[s.size - 3]'(by omega)).toNat : Int) != 46) = true := by rw [bne, h46]; rfl
  go_enter Tryd.func22, Tryd.ntmps22
  go_wp2
  all_goals
    go_ret2
    exact ⟨rfl, oneB _ _⟩

set_option maxHeartbeats 2000000 in
set_option maxRecDepth 100000 in
theorem refparse_m3 (s : ByteArray) (w : World) (hs : s.size ≤ 300) (hp : 1 ≤ s.size) (h45 : ((((s[0]'(by omega)).toNat : Int) == 45) = true)) (h4 : 5 < s.size) (h46 : (s[s.size - 3]'(by omega)).toNat = 46) (h48 : ((((s[1]'(by omega)).toNat : Int) == 48) = true)) :
    Calls Tryd.prog 22 #[.string s] w fun e w' => e = .returned (.tuple #[.int .i64 0, .int .i64 41]) ∧ Below w.heap.size w w' := by
  have hE := notEmpty (s := s) (by omega)
  go_enter Tryd.func22, Tryd.ntmps22
  go_wp2
  all_goals
    go_ret2
    exact ⟨rfl, oneB _ _⟩
end Go.Proofs.YtgdcegkokbkdfaaDoor
