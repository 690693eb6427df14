/- A disk as plain lists: what each call does to it. -/
import Derived.Test.YtjbhcdmeeakdcaaTear
namespace Go.Proofs.Ytjbhcdmeeakdcaa
structure DSt where
  room : Nat
  S : List Int
  R : List Int
  nw : Bool
  dn : Bool
  left : Int
/-- What stands ahead of the rest. -/
def DSt.ahead (d : DSt) : List Int := if d.nw = true then [] else d.S
def DSt.all (d : DSt) : List Int := d.ahead ++ d.R
def DSt.free (d : DSt) : Int := (d.room : Int) - (d.ahead.length : Int) - (d.R.length : Int)
def DSt.Ok (d : DSt) : Prop := d.room ≤ 4194304 ∧ Oct d.S ∧ Oct d.R ∧ d.S.length ≤ 4194304 ∧ d.R.length ≤ 4194304 ∧ d.S.length + d.R.length ≤ 8388608 ∧ -9223372036854775808 ≤ d.left ∧ d.left ≤ 9223372036854775807 ∧ 0 ≤ d.free
/-- Below 0 it is all the same. -/
def nrm (x : Int) : Int := if x < 0 then -1 else x
def spendE (l : Int) (n : Nat) : Bool := decide (0 ≤ l ∧ l < n)
/-- How many bytes are written. -/
def spendN (l : Int) (n : Nat) : Nat := if spendE l n = true then l.toNat else n
def spendL (l : Int) (n : Nat) : Int := if l < 0 then l else if spendE l n = true then -1 else l - n
def DSt.writeE (d : DSt) (n : Nat) : Int := if d.dn = true then 60 else if d.free < n then 3 else if spendE d.left n = true then 60 else 0
def DSt.writeD (d : DSt) (zs : List Int) : DSt := if d.dn = true ∨ d.free < zs.length then d else { d with R := d.R ++ zs.take (spendN d.left zs.length), left := spendL d.left zs.length, dn := spendE d.left zs.length }
def DSt.renewE (d : DSt) (n : Nat) : Int := if d.dn = true then 60 else if d.room < n then 3 else if spendE d.left n = true then 60 else 0
def DSt.renewD (d : DSt) (zs : List Int) : DSt := if d.dn = true ∨ d.room < zs.length then d else if spendE d.left zs.length = true then { d with left := -1, dn := true } else { d with R := zs, nw := true, left := spendL d.left zs.length }
def DSt.settleD (d : DSt) : DSt := { d with S := d.all, R := [], nw := false }
def DSt.syncE (d : DSt) : Int := if d.dn = true then 60 else 0
def DSt.syncD (d : DSt) : DSt := if d.dn = true then d else d.settleD
def DSt.giveD (d : DSt) : DSt := if d.nw = true then { d with R := [], nw := false } else d
def keepN (k : Int) (n : Nat) : Nat := (min (max k 0) n).toNat
def DSt.crashD (d : DSt) (k t : Int) : DSt := { d.giveD with dn := true, left := -1, R := tornL d.giveD.R (keepN k d.giveD.R.length) t }
def DSt.upD (d : DSt) : DSt := if d.dn = true then { d.giveD with dn := false }.settleD else d
def DSt.fuseD (d : DSt) (n : Int) : DSt := { d with left := n }
def DSt.readE (d : DSt) : Int := if d.dn = true then 60 else 0
def DSt.readD (d : DSt) : List Int := if d.dn = true then [] else d.all
def newD (room : Nat) : DSt := ⟨room, [], [], false, false, -1⟩
theorem all_length (d : DSt) : (d.all.length : Int) = (d.ahead.length : Int) + (d.R.length : Int) := by
  unfold DSt.all; rw [List.length_append]; omega
theorem ahead_oct {d : DSt} (h : d.Ok) : Oct d.ahead := by
  unfold DSt.ahead; split
  · intro a ha; cases ha
  · exact h.2.1
theorem ahead_le (d : DSt) : d.ahead.length ≤ d.S.length := by
  unfold DSt.ahead; split <;> simp
theorem all_oct {d : DSt} (h : d.Ok) : Oct d.all := (ahead_oct h).append h.2.2.1
theorem all_le {d : DSt} (h : d.Ok) : d.all.length ≤ 4194304 := by
  have h1 := all_length d
  have h2 := h.2.2.2.2.2.2.2.2
  have h3 := h.1
  unfold DSt.free at h2
  omega
theorem new_ok {room : Nat} (h : room ≤ 4194304) : (newD room).Ok := by
  refine ⟨h, ?_, ?_, ?_, ?_, ?_, ?_, ?_, ?_⟩ <;> simp [newD, Oct, DSt.free, DSt.ahead]
theorem spendN_le (l : Int) (n : Nat) : spendN l n ≤ n := by
  unfold spendN
  split
  · rename_i h
    unfold spendE at h
    rw [decide_eq_true_eq] at h
    omega
  · omega
theorem spendL_in {l : Int} {n : Nat} (h1 : -9223372036854775808 ≤ l) (h2 : l ≤ 9223372036854775807) (_ : n ≤ 4194304) : -9223372036854775808 ≤ spendL l n ∧ spendL l n ≤ 9223372036854775807 := by
  unfold spendL
  split
  · omega
  · split
    · omega
    · rename_i h3 h4
      unfold spendE at h4
      rw [decide_eq_true_eq] at h4
      omega
theorem write_ok {d : DSt} {zs : List Int} (h : d.Ok) (ho : Oct zs) : (d.writeD zs).Ok := by
  unfold DSt.writeD
  split
  · exact h
  · rename_i hc
    obtain ⟨h1, h2, h3, h4, h5, h6, h7, h8, h9⟩ := h
    have hn := spendN_le d.left zs.length
    have hf : (zs.length : Int) ≤ d.free := by
      have : ¬ d.free < zs.length := fun h => hc (.inr h)
      omega
    have hl : (zs.take (spendN d.left zs.length)).length ≤ zs.length := by rw [List.length_take]; omega
    have hfd : d.free = (d.room : Int) - (d.ahead.length : Int) - (d.R.length : Int) := rfl
    have hs := spendL_in (n := zs.length) h7 h8 (by omega)
    have hRl : (d.R ++ zs.take (spendN d.left zs.length)).length = d.R.length + (zs.take (spendN d.left zs.length)).length := List.length_append
    refine ⟨h1, h2, h3.append (ho.take _), h4, ?_, ?_, hs.1, hs.2, ?_⟩
    · show (d.R ++ zs.take (spendN d.left zs.length)).length ≤ _; omega
    · show d.S.length + (d.R ++ zs.take (spendN d.left zs.length)).length ≤ _; omega
    · show 0 ≤ (d.room : Int) - (d.ahead.length : Int) - ((d.R ++ zs.take (spendN d.left zs.length)).length : Int)
      omega
theorem renew_ok {d : DSt} {zs : List Int} (h : d.Ok) (ho : Oct zs) : (d.renewD zs).Ok := by
  unfold DSt.renewD
  split
  · exact h
  · rename_i hc
    obtain ⟨h1, h2, h3, h4, h5, h6, h7, h8, h9⟩ := h
    have hf : zs.length ≤ d.room := by
      have : ¬ d.room < zs.length := fun h => hc (.inr h)
      omega
    split
    · exact ⟨h1, h2, h3, h4, h5, h6, by show (-9223372036854775808 : Int) ≤ -1; decide, by show (-1 : Int) ≤ _; decide, h9⟩
    · have hs := spendL_in (n := zs.length) h7 h8 (by omega)
      refine ⟨h1, h2, ho, h4, by show zs.length ≤ _; omega, by show d.S.length + zs.length ≤ _; omega, hs.1, hs.2, ?_⟩
      show 0 ≤ (d.room : Int) - (([] : List Int).length : Int) - (zs.length : Int)
      simp; omega
theorem settle_ok {d : DSt} (h : d.Ok) : d.settleD.Ok := by
  have h1 := all_le h
  have h2 := all_length d
  obtain ⟨g1, _, _, _, _, _, g7, g8, g9⟩ := id h
  refine ⟨g1, all_oct h, (fun a ha => by cases ha), h1, by show ([] : List Int).length ≤ _; simp, by show d.all.length + ([] : List Int).length ≤ _; simp; omega, g7, g8, ?_⟩
  show 0 ≤ (d.room : Int) - (d.all.length : Int) - (([] : List Int).length : Int)
  unfold DSt.free at g9
  simp; omega
theorem sync_ok {d : DSt} (h : d.Ok) : d.syncD.Ok := by
  unfold DSt.syncD; split
  · exact h
  · exact settle_ok h
/-- What was sure never is more than there is room for. -/
def DSt.Fits (d : DSt) : Prop := d.S.length ≤ d.room
theorem give_ok {d : DSt} (h : d.Ok) (hf : d.Fits) : d.giveD.Ok := by
  unfold DSt.giveD; split
  · obtain ⟨h1, h2, h3, h4, h5, h6, h7, h8, h9⟩ := h
    refine ⟨h1, h2, (fun a ha => by cases ha), h4, by show ([] : List Int).length ≤ _; simp, by show d.S.length + ([] : List Int).length ≤ _; simp; omega, h7, h8, ?_⟩
    show 0 ≤ (d.room : Int) - (d.S.length : Int) - (([] : List Int).length : Int)
    unfold DSt.Fits at hf
    simp; omega
  · exact h
theorem keepN_le (k : Int) (n : Nat) : keepN k n ≤ n := by unfold keepN; omega
theorem give_nw (d : DSt) : d.giveD.nw = false := by
  unfold DSt.giveD
  split
  · rfl
  · simp_all
theorem give_S (d : DSt) : d.giveD.S = d.S := by unfold DSt.giveD; split <;> rfl
theorem crash_ok {d : DSt} (h : d.Ok) (hf : d.Fits) (k : Int) {t : Int} (ht : 0 ≤ t ∧ t < 256) : (d.crashD k t).Ok := by
  have hg := give_ok h hf
  obtain ⟨h1, h2, h3, h4, h5, h6, _, _, h9⟩ := id hg
  have hl := tornL_length (keepN_le k d.giveD.R.length) t
  have hk := keepN_le k d.giveD.R.length
  have hfd : d.giveD.free = (d.giveD.room : Int) - (d.giveD.ahead.length : Int) - (d.giveD.R.length : Int) := rfl
  refine ⟨h1, h2, tornL_oct h3 _ ht, h4, ?_, ?_, by show (-9223372036854775808 : Int) ≤ -1; decide, by show (-1 : Int) ≤ _; decide, ?_⟩
  · show (tornL d.giveD.R (keepN k d.giveD.R.length) t).length ≤ _; omega
  · show d.giveD.S.length + (tornL d.giveD.R (keepN k d.giveD.R.length) t).length ≤ _; omega
  · show 0 ≤ (d.giveD.room : Int) - (d.giveD.ahead.length : Int) - ((tornL d.giveD.R (keepN k d.giveD.R.length) t).length : Int)
    omega
theorem up_ok {d : DSt} (h : d.Ok) (hf : d.Fits) : d.upD.Ok := by
  unfold DSt.upD; split
  · exact settle_ok (d := { d.giveD with dn := false }) (give_ok h hf)
  · exact h
theorem settle_fits {d : DSt} (h : d.Ok) : d.settleD.Fits := by
  have h2 := all_length d
  have h9 := h.2.2.2.2.2.2.2.2
  unfold DSt.free at h9
  show d.all.length ≤ d.room
  omega
theorem write_fits {d : DSt} (hf : d.Fits) (zs : List Int) : (d.writeD zs).Fits := by unfold DSt.writeD; split <;> exact hf
theorem renew_fits {d : DSt} (hf : d.Fits) (zs : List Int) : (d.renewD zs).Fits := by unfold DSt.renewD; split; exact hf; split <;> exact hf
theorem sync_fits {d : DSt} (h : d.Ok) (hf : d.Fits) : d.syncD.Fits := by unfold DSt.syncD; split; exact hf; exact settle_fits h
theorem give_room (d : DSt) : d.giveD.room = d.room := by unfold DSt.giveD; split <;> rfl
theorem crash_fits {d : DSt} (hf : d.Fits) (k t : Int) : (d.crashD k t).Fits := by
  show d.giveD.S.length ≤ d.giveD.room
  rw [give_S, give_room]; exact hf
theorem up_fits {d : DSt} (h : d.Ok) (hf : d.Fits) : d.upD.Fits := by
  unfold DSt.upD; split
  · exact settle_fits (d := { d.giveD with dn := false }) (give_ok h hf)
  · exact hf
theorem fuse_ok {d : DSt} (h : d.Ok) {n : Int} (h1 : -9223372036854775808 ≤ n) (h2 : n ≤ 9223372036854775807) : (d.fuseD n).Ok := ⟨h.1, h.2.1, h.2.2.1, h.2.2.2.1, h.2.2.2.2.1, h.2.2.2.2.2.1, h1, h2, h.2.2.2.2.2.2.2.2⟩
end Go.Proofs.Ytjbhcdmeeakdcaa
