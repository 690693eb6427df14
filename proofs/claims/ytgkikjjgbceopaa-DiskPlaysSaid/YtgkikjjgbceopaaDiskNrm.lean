/- Lefts below 0 are all the same. -/
import Derived.Test.YtgkikjjgbceopaaDiskPure
namespace Go.Proofs.Ytgkikjjgbceopaa
def DSt.nr (d : DSt) : DSt := { d with left := nrm d.left }
theorem nrm_nrm (x : Int) : nrm (nrm x) = nrm x := by unfold nrm; split <;> simp_all
theorem spendE_nrm (l : Int) (n : Nat) : spendE (nrm l) n = spendE l n := by
  unfold spendE nrm; split
  · rw [decide_eq_decide]; omega
  · rfl
theorem spendN_nrm (l : Int) (n : Nat) : spendN (nrm l) n = spendN l n := by
  unfold spendN; rw [spendE_nrm]; split
  · rename_i h
    unfold spendE at h; rw [decide_eq_true_eq] at h
    unfold nrm; rw [if_neg (by omega)]
  · rfl
theorem spendL_nrm (l : Int) (n : Nat) : spendL (nrm l) n = nrm (spendL l n) := by
  unfold spendL; rw [spendE_nrm]
  by_cases h : l < 0
  · have e : nrm l = -1 := by unfold nrm; rw [if_pos h]
    rw [e, if_pos (by decide), if_pos h, e]
  · have e : nrm l = l := by unfold nrm; rw [if_neg h]
    rw [e, if_neg h]
    split
    · rfl
    · rename_i g
      unfold spendE at g; rw [decide_eq_true_eq] at g
      unfold nrm; rw [if_neg (by omega)]
theorem nr_free (d : DSt) : d.nr.free = d.free := rfl
theorem nr_all (d : DSt) : d.nr.all = d.all := rfl
theorem write_nrE (d : DSt) (n : Nat) : d.nr.writeE n = d.writeE n := by
  unfold DSt.writeE; rw [nr_free, show d.nr.left = nrm d.left from rfl, spendE_nrm]; rfl
theorem write_nrD (d : DSt) (zs : List Int) : d.nr.writeD zs = (d.writeD zs).nr := by
  unfold DSt.writeD
  rw [nr_free, show d.nr.left = nrm d.left from rfl, spendE_nrm, spendN_nrm, spendL_nrm]
  by_cases h : d.dn = true ∨ d.free < zs.length
  · rw [if_pos h, if_pos (show d.nr.dn = true ∨ _ from h)]
  · rw [if_neg h, if_neg (show ¬ (d.nr.dn = true ∨ _) from h)]; rfl
theorem renew_nrE (d : DSt) (n : Nat) : d.nr.renewE n = d.renewE n := by
  unfold DSt.renewE; rw [show d.nr.left = nrm d.left from rfl, spendE_nrm]; rfl
theorem renew_nrD (d : DSt) (zs : List Int) : d.nr.renewD zs = (d.renewD zs).nr := by
  unfold DSt.renewD
  rw [show d.nr.left = nrm d.left from rfl, spendE_nrm, spendL_nrm]
  by_cases h : d.dn = true ∨ d.room < zs.length
  · rw [if_pos h, if_pos (show d.nr.dn = true ∨ d.nr.room < _ from h)]
  · rw [if_neg h, if_neg (show ¬ (d.nr.dn = true ∨ d.nr.room < _) from h)]
    by_cases g : spendE d.left zs.length = true
    · rw [if_pos g, if_pos g]; rfl
    · rw [if_neg g, if_neg g]; rfl
theorem sync_nrE (d : DSt) : d.nr.syncE = d.syncE := rfl
theorem sync_nrD (d : DSt) : d.nr.syncD = d.syncD.nr := by
  unfold DSt.syncD
  by_cases h : d.dn = true
  · rw [if_pos h, if_pos (show d.nr.dn = true from h)]
  · rw [if_neg h, if_neg (show ¬ d.nr.dn = true from h)]; rfl
theorem give_nr (d : DSt) : d.nr.giveD = d.giveD.nr := by
  unfold DSt.giveD
  by_cases h : d.nw = true
  · rw [if_pos h, if_pos (show d.nr.nw = true from h)]; rfl
  · rw [if_neg h, if_neg (show ¬ d.nr.nw = true from h)]
theorem up_nrD (d : DSt) : d.nr.upD = d.upD.nr := by
  unfold DSt.upD
  by_cases h : d.dn = true
  · rw [if_pos h, if_pos (show d.nr.dn = true from h), give_nr]; rfl
  · rw [if_neg h, if_neg (show ¬ d.nr.dn = true from h)]
theorem crash_nrD (d : DSt) (k t : Int) : d.nr.crashD k t = (d.crashD k t).nr := by
  unfold DSt.crashD; rw [give_nr]; rfl
theorem fuse_nrD (d : DSt) (n : Int) : { d.nr with left := nrm n } = (d.fuseD n).nr := rfl
end Go.Proofs.Ytgkikjjgbceopaa
