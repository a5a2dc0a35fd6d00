/-
  The contracts of products: math/bits.Mul64, qfix.Mul and the document's Mul.
-/
import Derived.Test.YtliebglildaneaaBase
import Derived.WalkSpells
namespace Go.Proofs.Ytliebglildaneaa
open Go.RowKit Qm

theorem bt {a b c : World} (h : Below a.heap.size a b) (k : Below b.heap.size b c) : Below a.heap.size a c := h.trans (k.mono h.size)

theorem mask32 (z : Int) (h0 : 0 ≤ z) (h1 : z ≤ 18446744073709551615) : bits .and .u64 z 4294967295 = z % 4294967296 :=
  bits_mask .u64 64 (by decide) (fun n h0 h1 => by rw [IntKind.wrap_u64]; omega) 32 (by omega) z h0 (by omega)
/-- a product of two numbers of two halves each -/
theorem crossed (p q r s : Int) : (p * 4294967296 + q) * (r * 4294967296 + s) = p * r * 18446744073709551616 + (p * s + q * r) * 4294967296 + q * s := by
  have e1 : p * 4294967296 * (r * 4294967296) = p * r * 18446744073709551616 := by
    rw [Int.mul_assoc, Int.mul_left_comm 4294967296 r 4294967296, ← Int.mul_assoc p]
    generalize p * r = t
    omega
  have e2 : p * 4294967296 * s = p * s * 4294967296 := Int.mul_right_comm _ _ _
  have e3 : q * (r * 4294967296) = q * r * 4294967296 := (Int.mul_assoc _ _ _).symm
  rw [Int.add_mul, Int.mul_add, Int.mul_add, e1, e2, e3]
  omega
theorem prod32 {a b : Int} (ha : 0 ≤ a) (hA : a ≤ 4294967295) (hb : 0 ≤ b) (hB : b ≤ 4294967295) : 0 ≤ a * b ∧ a * b ≤ 4294967295 * 4294967295 :=
  ⟨Int.mul_nonneg ha hb, Int.mul_le_mul hA hB hb (by omega)⟩

/-- the two halves of a product -/
def hi64 (n : Int) : Int := n / 18446744073709551616
def lo64 (n : Int) : Int := n % 18446744073709551616
theorem hi64_bd {n : Int} (h0 : 0 ≤ n) (h : n ≤ 4951760157141521099596496896) : 0 ≤ hi64 n ∧ hi64 n ≤ 268435456 := by unfold hi64; omega
theorem lo64_bd (n : Int) : 0 ≤ lo64 n ∧ lo64 n ≤ 18446744073709551615 := by unfold lo64; omega

set_option maxHeartbeats 400000 in
theorem below_any (x c : Int) (w : World) (hx0 : 0 ≤ x) (hx : x ≤ 18446744073709551615) (hc0 : 0 ≤ c) (hc : c ≤ 62) :
    Calls Try.prog 30 #[.int .u64 x, .int .i64 c] w fun e w' => e = .returned (.int .u64 (x % 2 ^ c.toNat)) ∧ w' = w := by
  obtain ⟨k, rfl⟩ := Int.eq_ofNat_of_zero_le hc0
  have hk : k ≤ 62 := by omega
  have hp : (2 : Int) ^ k ≤ 4611686018427387904 := by
    have := Nat.pow_le_pow_right (n := 2) (by decide) hk
    have h2 : ((2 ^ k : Nat) : Int) ≤ ((2 ^ 62 : Nat) : Int) := by omega
    simpa using h2
  have hp1 : (1 : Int) ≤ 2 ^ k := by
    have := Nat.two_pow_pos k
    have h2 : ((1 : Nat) : Int) ≤ ((2 ^ k : Nat) : Int) := by omega
    simpa using h2
  have hm := bits_mask .u64 64 (by decide) (fun n h0 h1 => by rw [IntKind.wrap_u64]; omega) k (by omega) x hx0 (by omega)
  simp only [Int.toNat_natCast]
  go_enter Try.func30, Try.ntmps30
  go_wp2
  go_ret
  exact ⟨rfl, rfl⟩

theorem below24_any (x : Int) (w : World) (hx0 : 0 ≤ x) (hx : x ≤ 18446744073709551615) :
    Calls Try.prog 30 #[.int .u64 x, .int .i64 24] w fun e w' => e = .returned (.int .u64 (x % 16777216)) ∧ w' = w := below_any x 24 w hx0 hx (by omega) (by omega)

theorem whole_eq {n : Int} (h0 : 0 ≤ n) (h : hi64 n < 128) : bits .or .u64 (hi64 n * 1099511627776) (lo64 n / 16777216) = n / 16777216 := by
  have h1 : 0 ≤ hi64 n := by unfold hi64; omega
  have hl := lo64_bd n
  rw [bits_join .u64 64 (by decide) (fun n h0 h1 => by rw [IntKind.wrap_u64]; omega) 40 _ _ (by omega) (by omega) (by omega) (by omega) (by omega) (by omega)]
  unfold hi64 lo64
  omega
theorem whole_lt {n : Int} (h0 : 0 ≤ n) (h : hi64 n < 128) : n / 16777216 ≤ 140737488355327 := by unfold hi64 at h; omega
theorem whole_pos {n : Int} (h0 : 0 ≤ n) : 0 ≤ n / 16777216 := by omega
theorem rest_eq (n : Int) : lo64 n % 16777216 = n % 16777216 := by unfold lo64; omega


theorem far_ge {n : Int} (h : ¬ hi64 n < 128) : 140737488355328 ≤ n / 16777216 := by unfold hi64 at h; omega

end Go.Proofs.Ytliebglildaneaa
