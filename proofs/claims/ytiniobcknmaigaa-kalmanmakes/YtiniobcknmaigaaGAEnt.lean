/-
  Functions that the laws of stage 5 call in their regions are entered.
-/
import Derived.Test.YtiniobcknmaigaaGAutoV
namespace Go.Proofs.Ytiniobcknmaigaa
open Go.RowKit Go.Sort Qm

theorem enters_none : ∀ (args : Array Value) (a : World), Sem.run Try.prog (callFunc 25 args) a = Result.ok (Next.enter 25 args) a := by
  intro args a
  simp [callFunc, Try.func25, go_sem]
  rfl
theorem enters_r5 : ∀ (args : Array Value) (a : World), Sem.run Try.prog (callFunc 13 args) a = Result.ok (Next.enter 13 args) a := by
  intro args a
  simp [callFunc, Try.func13, go_sem]
  rfl
theorem enters_kr : ∀ (args : Array Value) (a : World), Sem.run Try.prog (callFunc 15 args) a = Result.ok (Next.enter 15 args) a := by
  intro args a
  simp [callFunc, Try.func15, go_sem]
  rfl
theorem enters_kg : ∀ (args : Array Value) (a : World), Sem.run Try.prog (callFunc 18 args) a = Result.ok (Next.enter 18 args) a := by
  intro args a
  simp [callFunc, Try.func18, go_sem]
  rfl
theorem enters_r3s : ∀ (args : Array Value) (a : World), Sem.run Try.prog (callFunc 17 args) a = Result.ok (Next.enter 17 args) a := by
  intro args a
  simp [callFunc, Try.func17, go_sem]
  rfl
theorem enters_pred : ∀ (args : Array Value) (a : World), Sem.run Try.prog (callFunc 21 args) a = Result.ok (Next.enter 21 args) a := by
  intro args a
  simp [callFunc, Try.func21, go_sem]
  rfl
end Go.Proofs.Ytiniobcknmaigaa
