/-
  The step makers are entered when they are called.
-/
import Derived.Test.YtiniobcknmaigaaKStepV
namespace Go.Proofs.Ytiniobcknmaigaa
open Go.RowKit Go.Sort Qm

theorem enters_mleft : ∀ (args : Array Value) (a : World), Sem.run Try.prog (callFunc 42 args) a = Result.ok (Next.enter 42 args) a := by
  intro args a
  simp [callFunc, Try.func42, go_sem]
  rfl
theorem enters_mrght : ∀ (args : Array Value) (a : World), Sem.run Try.prog (callFunc 43 args) a = Result.ok (Next.enter 43 args) a := by
  intro args a
  simp [callFunc, Try.func43, go_sem]
  rfl
theorem enters_mplus : ∀ (args : Array Value) (a : World), Sem.run Try.prog (callFunc 44 args) a = Result.ok (Next.enter 44 args) a := by
  intro args a
  simp [callFunc, Try.func44, go_sem]
  rfl
theorem enters_mless : ∀ (args : Array Value) (a : World), Sem.run Try.prog (callFunc 78 args) a = Result.ok (Next.enter 78 args) a := by
  intro args a
  simp [callFunc, Try.func78, go_sem]
  rfl
theorem enters_mscaled : ∀ (args : Array Value) (a : World), Sem.run Try.prog (callFunc 76 args) a = Result.ok (Next.enter 76 args) a := by
  intro args a
  simp [callFunc, Try.func76, go_sem]
  rfl
theorem enters_meach : ∀ (args : Array Value) (a : World), Sem.run Try.prog (callFunc 48 args) a = Result.ok (Next.enter 48 args) a := by
  intro args a
  simp [callFunc, Try.func48, go_sem]
  rfl
theorem enters_trans : ∀ (args : Array Value) (a : World), Sem.run Try.prog (callFunc 33 args) a = Result.ok (Next.enter 33 args) a := by
  intro args a
  simp [callFunc, Try.func33, go_sem]
  rfl
end Go.Proofs.Ytiniobcknmaigaa
