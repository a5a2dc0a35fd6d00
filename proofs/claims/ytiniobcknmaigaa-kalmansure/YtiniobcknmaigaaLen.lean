/-
  The contracts of math/bits.Len64 and LeadingZeros64: how many bits a word has.
-/
import Derived.Test.YtiniobcknmaigaaBase
import Derived.Lib.Tables
namespace Go.Proofs.Ytiniobcknmaigaa
open Go.RowKit Qm

theorem len8_all : ∀ i : Fin 256, 0 ≤ Lib.len8 (i.val : Int) ∧ Lib.len8 (i.val : Int) ≤ 8 ∧ i.val < 2 ^ (Lib.len8 (i.val : Int)).toNat ∧ (1 ≤ i.val → 1 ≤ Lib.len8 (i.val : Int) ∧ 2 ^ ((Lib.len8 (i.val : Int)).toNat - 1) ≤ i.val) := by decide +kernel

/-- how long a word is, whose upper bits, from the S-th on, are i -/
theorem len_of (S : Nat) (x i : Int) (_hx : 0 ≤ x) (hi : i = x / 2 ^ S) (h1 : 1 ≤ i) (h2 : i ≤ 255) :
    0 ≤ Lib.len8 i ∧ Lib.len8 i ≤ 8 ∧ 1 ≤ Lib.len8 i ∧ 2 ^ (S + (Lib.len8 i).toNat - 1) ≤ x ∧ x < 2 ^ (S + (Lib.len8 i).toNat) := by
  obtain ⟨a, b, c, d⟩ := len8_all ⟨i.toNat, by omega⟩
  have ei : ((i.toNat : Nat) : Int) = i := by omega
  simp only [ei] at a b c d
  obtain ⟨d1, d2⟩ := d (by omega)
  refine ⟨a, b, d1, ?_, ?_⟩
  · have e : S + (Lib.len8 i).toNat - 1 = S + ((Lib.len8 i).toNat - 1) := by omega
    rw [e, Int.pow_add]
    have p : (0 : Int) < 2 ^ S := Int.pow_pos (by omega)
    have h3 : (2 : Int) ^ ((Lib.len8 i).toNat - 1) ≤ i := by
      have : ((2 ^ ((Lib.len8 i).toNat - 1) : Nat) : Int) ≤ ((i.toNat : Nat) : Int) := by omega
      rw [ei] at this
      simpa using this
    have h4 : 2 ^ S * (2 : Int) ^ ((Lib.len8 i).toNat - 1) ≤ 2 ^ S * i := Int.mul_le_mul_of_nonneg_left h3 (by omega)
    have h5 : 2 ^ S * i ≤ x := by rw [hi]; exact Int.mul_ediv_self_le (by omega)
    omega
  · rw [Int.pow_add]
    have p : (0 : Int) < 2 ^ S := Int.pow_pos (by omega)
    have h3 : i + 1 ≤ (2 : Int) ^ (Lib.len8 i).toNat := by
      have : ((i.toNat : Nat) : Int) + 1 ≤ ((2 ^ (Lib.len8 i).toNat : Nat) : Int) := by omega
      rw [ei] at this
      simpa using this
    have h4 : 2 ^ S * (i + 1) ≤ 2 ^ S * (2 : Int) ^ (Lib.len8 i).toNat := Int.mul_le_mul_of_nonneg_left h3 (by omega)
    have h5 : x < 2 ^ S * (i + 1) := by
      rw [hi]
      have e := Int.emod_add_mul_ediv x (2 ^ S)
      have m := Int.emod_lt_of_pos x p
      rw [Int.mul_add, Int.mul_one]
      omega
    omega

/-- what is told of a word's length -/
def IsLen (x k : Int) : Prop := 1 ≤ k ∧ k ≤ 64 ∧ 2 ^ (k.toNat - 1) ≤ x ∧ x < 2 ^ k.toNat
theorem isLen_of (S : Nat) (x i : Int) (hS : S ≤ 56) (hx : 0 ≤ x) (hi : i = x / 2 ^ S) (h1 : 1 ≤ i) (h2 : i ≤ 255) : IsLen x (S + Lib.len8 i) := by
  obtain ⟨a, b, c, d, e⟩ := len_of S x i hx hi h1 h2
  have e1 : ((S : Int) + Lib.len8 i).toNat = S + (Lib.len8 i).toNat := by omega
  unfold IsLen
  rw [e1]
  exact ⟨by omega, by omega, d, e⟩

set_option maxHeartbeats 4000000 in
theorem len64_any (x : Int) (w : World) (h0 : 1 ≤ x) (h1 : x ≤ 18446744073709551615) :
    Calls Try.prog 106 #[.int .u64 x] w fun e w' => ∃ k, IsLen x k ∧ e = .returned (.int .i64 k) ∧ w' = w := by
  by_cases t1 : 4294967296 ≤ x
  · by_cases t2 : 65536 ≤ x / 4294967296
    · by_cases t3 : 256 ≤ x / 4294967296 / 65536
      · have c0 : 0 ≤ x / 4294967296 / 65536 / 256 := by omega
        have c1 : x / 4294967296 / 65536 / 256 ≤ 255 := by omega
        have hk : IsLen x (56 + Lib.len8 (x / 4294967296 / 65536 / 256)) := isLen_of 56 x (x / 4294967296 / 65536 / 256) (by omega) (by omega) (by omega) (by omega) c1
        obtain ⟨l0, l1, -, -, -⟩ := len_of 56 x (x / 4294967296 / 65536 / 256) (by omega) (by omega) (by omega) c1
        have K : Hid (IsLen x (56 + Lib.len8 (x / 4294967296 / 65536 / 256))) := hk
        clear hk
        go_enter Try.func106, Try.ntmps106
        go_wp2
        go_ret
        exact ⟨_, K.out, rfl, rfl⟩
      · have c0 : 0 ≤ x / 4294967296 / 65536 := by omega
        have c1 : x / 4294967296 / 65536 ≤ 255 := by omega
        have hk : IsLen x (48 + Lib.len8 (x / 4294967296 / 65536)) := isLen_of 48 x (x / 4294967296 / 65536) (by omega) (by omega) (by omega) (by omega) c1
        obtain ⟨l0, l1, -, -, -⟩ := len_of 48 x (x / 4294967296 / 65536) (by omega) (by omega) (by omega) c1
        have K : Hid (IsLen x (48 + Lib.len8 (x / 4294967296 / 65536))) := hk
        clear hk
        go_enter Try.func106, Try.ntmps106
        go_wp2
        go_ret
        exact ⟨_, K.out, rfl, rfl⟩
    · by_cases t3 : 256 ≤ x / 4294967296
      · have c0 : 0 ≤ x / 4294967296 / 256 := by omega
        have c1 : x / 4294967296 / 256 ≤ 255 := by omega
        have hk : IsLen x (40 + Lib.len8 (x / 4294967296 / 256)) := isLen_of 40 x (x / 4294967296 / 256) (by omega) (by omega) (by omega) (by omega) c1
        obtain ⟨l0, l1, -, -, -⟩ := len_of 40 x (x / 4294967296 / 256) (by omega) (by omega) (by omega) c1
        have K : Hid (IsLen x (40 + Lib.len8 (x / 4294967296 / 256))) := hk
        clear hk
        go_enter Try.func106, Try.ntmps106
        go_wp2
        go_ret
        exact ⟨_, K.out, rfl, rfl⟩
      · have c0 : 0 ≤ x / 4294967296 := by omega
        have c1 : x / 4294967296 ≤ 255 := by omega
        have hk : IsLen x (32 + Lib.len8 (x / 4294967296)) := isLen_of 32 x (x / 4294967296) (by omega) (by omega) (by omega) (by omega) c1
        obtain ⟨l0, l1, -, -, -⟩ := len_of 32 x (x / 4294967296) (by omega) (by omega) (by omega) c1
        have K : Hid (IsLen x (32 + Lib.len8 (x / 4294967296))) := hk
        clear hk
        go_enter Try.func106, Try.ntmps106
        go_wp2
        go_ret
        exact ⟨_, K.out, rfl, rfl⟩
  · by_cases t2 : 65536 ≤ x
    · by_cases t3 : 256 ≤ x / 65536
      · have c0 : 0 ≤ x / 65536 / 256 := by omega
        have c1 : x / 65536 / 256 ≤ 255 := by omega
        have hk : IsLen x (24 + Lib.len8 (x / 65536 / 256)) := isLen_of 24 x (x / 65536 / 256) (by omega) (by omega) (by omega) (by omega) c1
        obtain ⟨l0, l1, -, -, -⟩ := len_of 24 x (x / 65536 / 256) (by omega) (by omega) (by omega) c1
        have K : Hid (IsLen x (24 + Lib.len8 (x / 65536 / 256))) := hk
        clear hk
        go_enter Try.func106, Try.ntmps106
        go_wp2
        go_ret
        exact ⟨_, K.out, rfl, rfl⟩
      · have c0 : 0 ≤ x / 65536 := by omega
        have c1 : x / 65536 ≤ 255 := by omega
        have hk : IsLen x (16 + Lib.len8 (x / 65536)) := isLen_of 16 x (x / 65536) (by omega) (by omega) (by omega) (by omega) c1
        obtain ⟨l0, l1, -, -, -⟩ := len_of 16 x (x / 65536) (by omega) (by omega) (by omega) c1
        have K : Hid (IsLen x (16 + Lib.len8 (x / 65536))) := hk
        clear hk
        go_enter Try.func106, Try.ntmps106
        go_wp2
        go_ret
        exact ⟨_, K.out, rfl, rfl⟩
    · by_cases t3 : 256 ≤ x
      · have c0 : 0 ≤ x / 256 := by omega
        have c1 : x / 256 ≤ 255 := by omega
        have hk : IsLen x (8 + Lib.len8 (x / 256)) := isLen_of 8 x (x / 256) (by omega) (by omega) (by omega) (by omega) c1
        obtain ⟨l0, l1, -, -, -⟩ := len_of 8 x (x / 256) (by omega) (by omega) (by omega) c1
        have K : Hid (IsLen x (8 + Lib.len8 (x / 256))) := hk
        clear hk
        go_enter Try.func106, Try.ntmps106
        go_wp2
        go_ret
        exact ⟨_, K.out, rfl, rfl⟩
      · have c0 : 0 ≤ x := by omega
        have c1 : x ≤ 255 := by omega
        have hk : IsLen x (0 + Lib.len8 (x)) := isLen_of 0 x (x) (by omega) (by omega) (by omega) (by omega) c1
        obtain ⟨l0, l1, -, -, -⟩ := len_of 0 x (x) (by omega) (by omega) (by omega) c1
        have K : Hid (IsLen x (0 + Lib.len8 (x))) := hk
        clear hk
        go_enter Try.func106, Try.ntmps106
        go_wp2
        go_ret
        exact ⟨_, K.out, by simp, rfl⟩

set_option maxHeartbeats 400000 in
theorem lz64_any (x : Int) (w : World) (h0 : 1 ≤ x) (h1 : x ≤ 18446744073709551615) :
    Calls Try.prog 104 #[.int .u64 x] w fun e w' => ∃ k : Nat, k ≤ 63 ∧ 9223372036854775808 ≤ x * 2 ^ k ∧ x * 2 ^ k ≤ 18446744073709551615 ∧ e = .returned (.int .i64 (k : Int)) ∧ w' = w := by
  go_enter Try.func104, Try.ntmps104
  go_wp2_with (go_at_call 106; refine (len64_any _ _ (by omega) (by omega)).mono ?_; rintro e w' ⟨k, ⟨k1, k2, k3, k4⟩, rfl, rfl⟩)
  go_ret
  refine ⟨64 - k.toNat, by omega, ?_, ?_, ?_, rfl⟩
  · have e : (9223372036854775808 : Int) = 2 ^ (k.toNat - 1) * 2 ^ (64 - k.toNat) := by
      rw [← Int.pow_add, show k.toNat - 1 + (64 - k.toNat) = 63 by omega]; rfl
    rw [e]
    exact Int.mul_le_mul_of_nonneg_right k3 (Int.pow_nonneg (by omega))
  · have e : (18446744073709551616 : Int) = 2 ^ k.toNat * 2 ^ (64 - k.toNat) := by
      rw [← Int.pow_add, show k.toNat + (64 - k.toNat) = 64 by omega]; rfl
    have h : x * 2 ^ (64 - k.toNat) < 2 ^ k.toNat * 2 ^ (64 - k.toNat) := Int.mul_lt_mul_of_pos_right k4 (Int.pow_pos (by omega))
    omega
  · have e : (((64 - k.toNat : Nat)) : Int) = 64 - k := by omega
    rw [e]
    rfl
end Go.Proofs.Ytiniobcknmaigaa
