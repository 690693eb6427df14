/- The methods of what is due, through heap.Interface. -/
import Derived.Test.YtpmiekheiddihaaClkSwap
namespace Go.Proofs.Ytpmiekheiddihaa
open Go.RowKit
theorem rcv (a : Addr) (w : World) (v : Value) (nm : String) (h : (loadVar 57 a).run Try.prog w = .ok v w) : (receiverAt 67 (.val (.pointer (some a))) false (some nm)).run Try.prog w = .ok v w := by
  have e : (receiverAt 67 (.val (.pointer (some a))) false (some nm)).run Try.prog w = (loadVar 57 a).run Try.prog w := by kernel_rfl
  rw [e, h]
theorem ldv (a : Addr) (w : World) (p : Option Addr) (n c : Nat) (h : w.cell? a = some (.slice p n c)) : (loadVar 57 a).run Try.prog w = .ok (.slice p n c) w := by
  go_simp
theorem m_len (a : Addr) (w : World) (p : Option Addr) (n c : Nat) (h0 : w.cell? a = some (.slice p n c)) (f : Nat) : (method (f + 1) 67 (.pointer (some a)) "Len").run Try.prog w = .ok (46, .slice p n c) w := by
  have h := ldv a w p n c h0
  have hm : (Try.prog.info? 67).map (fun i => (i.methods.find? (·.name == "Len")).map (fun m => (m.path, m.func))) = some (some (#[], some (46, false))) := by kernel_rfl
  cases hi : Try.prog.info? 67 with
  | none => rw [hi] at hm; cases hm
  | some i =>
    rw [hi] at hm
    simp only [Option.map_some, Option.some.injEq] at hm
    cases hf : i.methods.find? (·.name == "Len") with
    | none => rw [hf] at hm; cases hm
    | some m =>
      rw [hf] at hm
      simp only [Option.map_some, Option.some.injEq, Prod.mk.injEq] at hm
      unfold method
      simp [typeInfo, hi, hf, hm, follow, rcv a w _ _ h, Result.andThen]
theorem m_less (a : Addr) (w : World) (p : Option Addr) (n c : Nat) (h0 : w.cell? a = some (.slice p n c)) (f : Nat) : (method (f + 1) 67 (.pointer (some a)) "Less").run Try.prog w = .ok (47, .slice p n c) w := by
  have h := ldv a w p n c h0
  have hm : (Try.prog.info? 67).map (fun i => (i.methods.find? (·.name == "Less")).map (fun m => (m.path, m.func))) = some (some (#[], some (47, false))) := by kernel_rfl
  cases hi : Try.prog.info? 67 with
  | none => rw [hi] at hm; cases hm
  | some i =>
    rw [hi] at hm
    simp only [Option.map_some, Option.some.injEq] at hm
    cases hf : i.methods.find? (·.name == "Less") with
    | none => rw [hf] at hm; cases hm
    | some m =>
      rw [hf] at hm
      simp only [Option.map_some, Option.some.injEq, Prod.mk.injEq] at hm
      unfold method
      simp [typeInfo, hi, hf, hm, follow, rcv a w _ _ h, Result.andThen]
theorem m_swap (a : Addr) (w : World) (p : Option Addr) (n c : Nat) (h0 : w.cell? a = some (.slice p n c)) (f : Nat) : (method (f + 1) 67 (.pointer (some a)) "Swap").run Try.prog w = .ok (48, .slice p n c) w := by
  have h := ldv a w p n c h0
  have hm : (Try.prog.info? 67).map (fun i => (i.methods.find? (·.name == "Swap")).map (fun m => (m.path, m.func))) = some (some (#[], some (48, false))) := by kernel_rfl
  cases hi : Try.prog.info? 67 with
  | none => rw [hi] at hm; cases hm
  | some i =>
    rw [hi] at hm
    simp only [Option.map_some, Option.some.injEq] at hm
    cases hf : i.methods.find? (·.name == "Swap") with
    | none => rw [hf] at hm; cases hm
    | some m =>
      rw [hf] at hm
      simp only [Option.map_some, Option.some.injEq, Prod.mk.injEq] at hm
      unfold method
      simp [typeInfo, hi, hf, hm, follow, rcv a w _ _ h, Result.andThen]
theorem m_push (a : Addr) (w : World) (f : Nat) : (method (f + 1) 67 (.pointer (some a)) "Push").run Try.prog w = .ok (53, .pointer (some a)) w := by kernel_rfl
theorem m_pop (a : Addr) (w : World) (f : Nat) : (method (f + 1) 67 (.pointer (some a)) "Pop").run Try.prog w = .ok (52, .pointer (some a)) w := by kernel_rfl
end Go.Proofs.Ytpmiekheiddihaa
