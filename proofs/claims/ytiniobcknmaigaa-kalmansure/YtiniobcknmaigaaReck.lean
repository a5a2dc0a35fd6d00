/-
  The contract of the closure of mat.reckoned, over whatever function reckons the numbers.
-/
import Derived.Test.YtiniobcknmaigaaFilled
namespace Go.Proofs.Ytiniobcknmaigaa
open Go.RowKit Qm

theorem enters68 : ∀ (args : Array Value) (a : World), Sem.run Try.prog (callFunc 100 args) a = Result.ok (Next.enter 100 args) a := by
  intro args a
  simp [callFunc, Try.func100, go_sem]
  rfl

theorem reck1_end {a b : World} {M : Nat} {m o : Bool} (hM : a.heap[M]? = some (.cells #[.bool m] 4 (0, 0))) (hb : Below a.heap.size a b) :
    (b.setCell ⟨M, 0, none⟩ (.bool o)).heap[M]? = some (.cells #[.bool o] 4 (0, 0)) ∧ a.grownBy (b.setCell ⟨M, 0, none⟩ (.bool o)) (some M) := by
  have h1 : b.heap[M]? = some (.cells #[.bool m] 4 (0, 0)) := (hb.block M (lt_of_block hM)).trans hM
  refine ⟨one_setCell h1, ?_⟩
  refine ⟨hb.os, hb.tape, hb.output, by have := hb.size; simpa [World.setCell] using this, fun k hk hn => ?_⟩
  rw [Below.heap_setCell _ _ _ _ (by intro e; exact hn (by rw [e])), hb.block k hk]

set_option maxHeartbeats 400000 in
theorem reck1_any (i j : Int) (G : Nat) (hG : ∀ (args : Array Value) (a : World), Sem.run Try.prog (callFunc G args) a = Result.ok (Next.enter G args) a) (caps : Array Value) (T M : Nat) (t : Int) (m o : Bool) (a : World)
    (hT : a.cell? ⟨T, 0, none⟩ = some (.func (.func G) #[] caps)) (hM : a.heap[M]? = some (.cells #[.bool m] 4 (0, 0)))
    (hcall : Calls Try.prog G (#[.int .i64 i, .int .i64 j] ++ caps) a (fun e b => e = .returned (.tuple #[.int .i64 t, .bool o]) ∧ Below a.heap.size a b)) :
    Calls Try.prog 100 #[.int .i64 i, .int .i64 j, .pointer (some ⟨T, 0, none⟩), .pointer (some ⟨M, 0, none⟩)] a fun e b => e = .returned (.int .i64 t) ∧
      b.heap[M]? = some (.cells #[.bool (m || o)] 4 (0, 0)) ∧ a.grownBy b (some M) := by
  go_enter Try.func100, Try.ntmps100
  cases m
  all_goals
    go_wp2_with (refine Calls.mono hcall ?_; rintro e wx ⟨rfl, bx⟩; have c1 := cell_of_one ((bx.block M (lt_of_block hM)).trans hM); have c2 := free_of_one ((bx.block M (lt_of_block hM)).trans hM))
    go_ret
    have h := reck1_end (o := o) hM bx
    first
      | exact ⟨rfl, (reck1_end (o := o) hM bx).1, (reck1_end (o := o) hM bx).2⟩
      | exact ⟨rfl, (reck1_end (o := true) hM bx).1, (reck1_end (o := true) hM bx).2⟩
end Go.Proofs.Ytiniobcknmaigaa
