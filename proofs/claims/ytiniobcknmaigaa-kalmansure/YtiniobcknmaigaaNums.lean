/-
  The contracts of the small functions of package mat: numbers and its closure, sizeOf, turned, mayCount, laid, outside.
-/
import Derived.Test.YtiniobcknmaigaaReckB
namespace Go.Proofs.Ytiniobcknmaigaa
open Go.RowKit Qm

theorem box_below (w : World) (o : Obj) : Below w.heap.size w (w.alloc o) := (Below.refl _ _).alloc (Nat.le_refl _) _

set_option maxHeartbeats 400000 in
theorem numbers1_any (i j c : Nat) (bk : Nat) (R : Int) (sl : Value) (xs : List Int) (w : World) (hi : i ≤ 8) (hj : j < c) (hc : c ≤ 8) (hn : xs.length ≤ 64) (hx : i * c + j < xs.length)
    (hb : w.heap[bk]? = some (.cells #[.int .i64 R, .int .i64 c, sl] 24 (0, 0))) (hs : Sees w sl xs) :
    Calls Try.prog 83 #[.int .i64 i, .int .i64 j, .pointer (some ⟨bk, 0, none⟩)] w fun e w' => e = .returned (.int .i64 (ge xs (i * c + j))) ∧ w' = w := by
  obtain ⟨ao, cap, rfl, hcell⟩ := hs
  obtain ⟨ad, rfl, _, hcell⟩ := hcell _ hx
  obtain ⟨h0, h1, h2, _⟩ := mat_cells hb
  have hm : i * c ≤ 64 := mul_le_64 hi hc
  obtain ⟨q, hq⟩ : ∃ q, i * c = q := ⟨_, rfl⟩
  have hq' : (i : Int) * (c : Int) = (q : Int) := by rw [← hq]; exact (Int.natCast_mul i c).symm
  rw [hq] at hm hx hcell ⊢
  clear hq hb
  go_enter Try.func83, Try.ntmps83
  go_wp2
  go_ret
  exact ⟨rfl, rfl⟩

theorem numbers_any (R c : Int) (ao : Option Addr) (n cap : Nat) (w : World) :
    Calls Try.prog 60 #[.agg #[.int .i64 R, .int .i64 c, .slice ao n cap]] w fun e w' => e = .returned (.func (.func 83) #[] #[.pointer (some ⟨w.heap.size, 0, none⟩)]) ∧ w' = w.alloc (.cells #[.int .i64 R, .int .i64 c, .slice ao n cap] 24) := by
  go_enter Try.func60, Try.ntmps60
  go_wp2
  go_ret
  exact ⟨rfl, rfl⟩

theorem sizeOf_any (R c : Int) (ao : Option Addr) (n cap : Nat) (w : World) :
    Calls Try.prog 58 #[.agg #[.int .i64 R, .int .i64 c, .slice ao n cap]] w fun e w' => e = .returned (.agg #[.int .i64 R, .int .i64 c]) ∧ Below w.heap.size w w' := by
  go_enter Try.func58, Try.ntmps58
  go_wp2
  refine bodyPost_ret (v := .agg #[.int .i64 R, .int .i64 c]) (by simp [results, Try.results58, go_sem]) rfl ?_
  exact ⟨rfl, (box_below _ _).alloc (by simp) _⟩

theorem turned_any (R c : Int) (w : World) :
    Calls Try.prog 62 #[.agg #[.int .i64 R, .int .i64 c]] w fun e w' => e = .returned (.agg #[.int .i64 c, .int .i64 R]) ∧ Below w.heap.size w w' := by
  go_enter Try.func62, Try.ntmps62
  go_wp2
  refine bodyPost_ret (v := .agg #[.int .i64 c, .int .i64 R]) (by simp [results, Try.results62, go_sem]) rfl ?_
  exact ⟨rfl, (box_below _ _).alloc (by simp) _⟩

namespace Qm
/-- may there be so many rows? -/
def cntB (n : Int) : Bool := decide (1 ≤ n) && decide (n ≤ 8)
theorem cntB_t {n : Int} (h1 : 1 ≤ n) (h2 : n ≤ 8) : cntB n = true := by unfold cntB; simp; omega
theorem cntB_f {n : Int} (h : ¬ (1 ≤ n ∧ n ≤ 8)) : cntB n = false := by unfold cntB; simp; omega
theorem cntB_in {n : Int} (h : cntB n = true) : 1 ≤ n ∧ n ≤ 8 := by unfold cntB at h; simpa using h
/-- is a matrix laid? -/
def laidB (r c : Int) (n : Nat) : Bool := cntB r && (cntB c && decide ((n : Int) = r * c))
theorem laidB_in {r c : Int} {n : Nat} (h : laidB r c n = true) : ∃ R C : Nat, r = R ∧ c = C ∧ 1 ≤ R ∧ R ≤ 8 ∧ 1 ≤ C ∧ C ≤ 8 ∧ n = R * C := by
  unfold laidB at h
  simp only [Bool.and_eq_true, decide_eq_true_eq] at h
  obtain ⟨h1, h2, h3⟩ := h
  have h1 := cntB_in h1
  have h2 := cntB_in h2
  obtain ⟨R, rfl⟩ := Int.eq_ofNat_of_zero_le (by omega : 0 ≤ r)
  obtain ⟨C, rfl⟩ := Int.eq_ofNat_of_zero_le (by omega : 0 ≤ c)
  refine ⟨R, C, rfl, rfl, by omega, by omega, by omega, by omega, ?_⟩
  rw [← Int.natCast_mul] at h3
  exact Int.ofNat.inj h3
theorem laidB_mk {R C n : Nat} (h1 : 1 ≤ R) (h2 : R ≤ 8) (h3 : 1 ≤ C) (h4 : C ≤ 8) (h5 : n = R * C) : laidB R C n = true := by
  unfold laidB
  rw [cntB_t (by omega) (by omega), cntB_t (by omega) (by omega), h5, Int.natCast_mul]; simp
end Qm

theorem mayCount_any (n : Int) (w : World) : Calls Try.prog 53 #[.int .i64 n] w fun e w' => e = .returned (.bool (cntB n)) ∧ w' = w := by
  by_cases h1 : 1 ≤ n
  · by_cases h2 : n ≤ 8
    · rw [cntB_t h1 h2]
      have d2 : decide (n ≤ 8) = true := by simp; omega
      go_enter Try.func53, Try.ntmps53
      go_wp2
      go_ret
      exact ⟨rfl, rfl⟩
    · rw [cntB_f (by omega)]
      have d2 : decide (n ≤ 8) = false := by simp; omega
      go_enter Try.func53, Try.ntmps53
      go_wp2
      go_ret
      exact ⟨rfl, rfl⟩
  · rw [cntB_f (by omega)]
    have d1 : decide (1 ≤ n) = false := by simp; omega
    go_enter Try.func53, Try.ntmps53
    go_wp2
    go_ret
    exact ⟨rfl, rfl⟩

theorem outside_any (a : Int) (w : World) : Calls Try.prog 54 #[.int .i64 a] w fun e w' => e = .returned (.bool (ob a)) ∧ w' = w := by
  go_enter Try.func54, Try.ntmps54
  go_wp2_with (go_at_call 81; refine (clamp_any _ _).mono ?_; rintro e w' ⟨rfl, rfl⟩)
  go_ret
  exact ⟨rfl, rfl⟩
end Go.Proofs.Ytiniobcknmaigaa
