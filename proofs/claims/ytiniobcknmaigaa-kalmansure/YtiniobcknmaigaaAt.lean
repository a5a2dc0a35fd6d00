/-
  A matrix's numbers by their row and column, as a variable holds them; the contract of the closure of mat.Scale.
-/
import Derived.Test.YtiniobcknmaigaaLaid
import Derived.Test.YtiniobcknmaigaaMul
import Derived.Laws.EntriesVeiled
import Derived.Deep.QuietTactic
import Derived.BigQuiet
import Derived.Lib.QuietBelow
namespace Go.Proofs.Ytiniobcknmaigaa
open Go.RowKit Go.Sort Qm

/-- a variable that holds a function of a matrix's numbers -/
def AtBox (w : World) (P bk c : Nat) (xs : List Int) : Prop :=
  w.cell? ⟨P, 0, none⟩ = some (.func (.func 83) #[] #[.pointer (some ⟨bk, 0, none⟩)]) ∧ P < w.heap.size ∧ ∃ R sl, w.heap[bk]? = some (.cells #[.int .i64 R, .int .i64 c, sl] 24 (0, 0)) ∧ Sees w sl xs
theorem AtBox.below {w w' : World} {P bk c : Nat} {xs : List Int} (h : AtBox w P bk c xs) (hb : Below w.heap.size w w') : AtBox w' P bk c xs := by
  obtain ⟨h1, h2, R, sl, h3, h4⟩ := h
  exact ⟨by rw [hb.cell (p := ⟨P, 0, none⟩) h2]; exact h1, Nat.lt_of_lt_of_le h2 hb.size, R, sl, by rw [hb.block bk (lt_of_block h3)]; exact h3, h4.below hb⟩
theorem atbox_mk {w : World} {R : Int} {c : Nat} {sl : Value} {xs : List Int} (hs : Sees w sl xs) :
    AtBox ((w.alloc (.cells #[.int .i64 R, .int .i64 c, sl] 24)).alloc (.cells #[.func (.func 83) #[] #[.pointer (some ⟨w.heap.size, 0, none⟩)]] 96)) (w.heap.size + 1) w.heap.size c xs := by
  obtain ⟨h1, h2⟩ := allocs2 w (.cells #[.int .i64 R, .int .i64 c, sl] 24) (.cells #[.func (.func 83) #[] #[.pointer (some ⟨w.heap.size, 0, none⟩)]] 96)
  exact ⟨cell_of_one h2, lt_of_block h2, R, sl, h1, (hs.alloc _).alloc _⟩
/-- a call of it -/
theorem at_any (i j c : Nat) (P bk : Nat) (xs : List Int) (w : World) (hi : i ≤ 8) (hj : j < c) (hc : c ≤ 8) (hn : xs.length ≤ 64) (hx : i * c + j < xs.length) (h : AtBox w P bk c xs) :
    Calls Try.prog 83 #[.int .i64 i, .int .i64 j, .pointer (some ⟨bk, 0, none⟩)] w fun e w' => e = .returned (.int .i64 (ge xs (i * c + j))) ∧ w' = w := by
  obtain ⟨_, _, R, sl, h3, h4⟩ := h
  exact numbers1_any i j c bk R sl xs w hi hj hc hn hx h3 h4
/-- .. inside a region that draws -/
theorem at_calm (i j c : Nat) (P bk : Nat) (xs : List Int) (w : World) (hi : i ≤ 8) (hj : j < c) (hc : c ≤ 8) (hn : xs.length ≤ 64) (hx : i * c + j < xs.length) (h : AtBox w P bk c xs) (d : Nat) (os : Array Obj) :
    Calls Try.prog 83 #[.int .i64 i, .int .i64 j, .pointer (some ⟨bk, 0, none⟩)] (grow (redrawn w d) os) fun e w'' => e = .returned (.int .i64 (ge xs (i * c + j))) ∧ ∃ p : Regrown, w'' = grow (redrawn w p.d) p.os :=
  Calls.regrown_of ((at_any i j c P bk xs _ hi hj hc hn hx (h.below (below_regrown w d os))).mono fun e w' hh => ⟨hh.1, by rw [hh.2]; exact Below.refl _ _⟩)
theorem mul_calm (a b : Int) (w : World) (d : Nat) (os : Array Obj) : Calls Try.prog 73 #[.int .i64 a, .int .i64 b] (grow (redrawn w d) os) fun e w'' => e = .returned (.tuple #[.int .i64 (mul a b), .bool (mulB a b)]) ∧ ∃ p : Regrown, w'' = grow (redrawn w p.d) p.os :=
  Calls.regrown_of (mul_any a b _)

set_option maxHeartbeats 400000 in
theorem scale1_any (i j c : Nat) (P bk K : Nat) (k : Int) (xs : List Int) (w : World) (hi : i ≤ 8) (hj : j < c) (hc : c ≤ 8) (hn : xs.length ≤ 64) (hx : i * c + j < xs.length) (h : AtBox w P bk c xs)
    (hk : w.cell? ⟨K, 0, none⟩ = some (.int .i64 k)) :
    Calls Try.prog 105 #[.int .i64 i, .int .i64 j, .pointer (some ⟨P, 0, none⟩), .pointer (some ⟨K, 0, none⟩)] w fun e w' => e = .returned (.tuple #[.int .i64 (mul (ge xs (i * c + j)) k), .bool (mulB (ge xs (i * c + j)) k)]) ∧ Below w.heap.size w w' := by
  have k1 := cell_regrown h.1
  have k2 := cell_regrown hk
  have cA := at_calm i j c P bk xs w hi hj hc hn hx h
  obtain ⟨x, hx'⟩ : ∃ x, ge xs (i * c + j) = x := ⟨_, rfl⟩
  rw [hx'] at cA ⊢
  clear hx' h hx
  have cM := mul_calm x k w
  go_enter Try.func105, Try.ntmps105
  go_wp2
  refine wp_region_quiet_below (by kernel_rfl) (by kernel_rfl) ?_
  repeat (quiet_step (first | exact cA _ _ | exact cM _ _))
  refine wpQuiet_nil ?_
  intro _ hw'
  obtain ⟨⟨dq, osq⟩, hw''⟩ := hw'
  subst hw''
  go_wp2
  go_ret2
  exact ⟨rfl, below_regrown w dq osq⟩
end Go.Proofs.Ytiniobcknmaigaa
