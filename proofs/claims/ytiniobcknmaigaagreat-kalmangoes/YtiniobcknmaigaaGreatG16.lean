/-
  Texts joined, in the order in which they stand on one another: Len DivW DivS.
-/
import Derived.Test.YtiniobcknmaigaaGreatG01
import Derived.Test.YtiniobcknmaigaaGreatG13
import Derived.Lib.Tables
import Derived.WalkSpells
import Derived.Deep.QuietTactic
import Derived.BigQuiet
/-
  The contracts of math/bits.Len64 and LeadingZeros64: how many bits a word has.
-/
namespace Go.Proofs.YtiniobcknmaigaaGreat
open Go.RowKit Qm

theorem len8_all : ∀ i : Fin 256, 0 ≤ Lib.len8 (i.val : Int) ∧ Lib.len8 (i.val : Int) ≤ 8 ∧ i.val < 2 ^ (Lib.len8 (i.val : Int)).toNat ∧ (1 ≤ i.val → 1 ≤ Lib.len8 (i.val : Int) ∧ 2 ^ ((Lib.len8 (i.val : Int)).toNat - 1) ≤ i.val) := by decide +kernel

/-- how long a word is, whose upper bits, from the S-th on, are i -/
theorem len_of (S : Nat) (x i : Int) (_hx : 0 ≤ x) (hi : i = x / 2 ^ S) (h1 : 1 ≤ i) (h2 : i ≤ 255) :
    0 ≤ Lib.len8 i ∧ Lib.len8 i ≤ 8 ∧ 1 ≤ Lib.len8 i ∧ 2 ^ (S + (Lib.len8 i).toNat - 1) ≤ x ∧ x < 2 ^ (S + (Lib.len8 i).toNat) := by
  obtain ⟨a, b, c, d⟩ := len8_all ⟨i.toNat, by omega⟩
  have ei : ((i.toNat : Nat) : Int) = i := by omega
  simp only [ei] at a b c d
  obtain ⟨d1, d2⟩ := d (by omega)
  refine ⟨a, b, d1, ?_, ?_⟩
  · have e : S + (Lib.len8 i).toNat - 1 = S + ((Lib.len8 i).toNat - 1) := by omega
    rw [e, Int.pow_add]
    have p : (0 : Int) < 2 ^ S := Int.pow_pos (by omega)
    have h3 : (2 : Int) ^ ((Lib.len8 i).toNat - 1) ≤ i := by
      have : ((2 ^ ((Lib.len8 i).toNat - 1) : Nat) : Int) ≤ ((i.toNat : Nat) : Int) := by omega
      rw [ei] at this
      simpa using this
    have h4 : 2 ^ S * (2 : Int) ^ ((Lib.len8 i).toNat - 1) ≤ 2 ^ S * i := Int.mul_le_mul_of_nonneg_left h3 (by omega)
    have h5 : 2 ^ S * i ≤ x := by rw [hi]; exact Int.mul_ediv_self_le (by omega)
    omega
  · rw [Int.pow_add]
    have p : (0 : Int) < 2 ^ S := Int.pow_pos (by omega)
    have h3 : i + 1 ≤ (2 : Int) ^ (Lib.len8 i).toNat := by
      have : ((i.toNat : Nat) : Int) + 1 ≤ ((2 ^ (Lib.len8 i).toNat : Nat) : Int) := by omega
      rw [ei] at this
      simpa using this
    have h4 : 2 ^ S * (i + 1) ≤ 2 ^ S * (2 : Int) ^ (Lib.len8 i).toNat := Int.mul_le_mul_of_nonneg_left h3 (by omega)
    have h5 : x < 2 ^ S * (i + 1) := by
      rw [hi]
      have e := Int.emod_add_mul_ediv x (2 ^ S)
      have m := Int.emod_lt_of_pos x p
      rw [Int.mul_add, Int.mul_one]
      omega
    omega

/-- what is told of a word's length -/
def IsLen (x k : Int) : Prop := 1 ≤ k ∧ k ≤ 64 ∧ 2 ^ (k.toNat - 1) ≤ x ∧ x < 2 ^ k.toNat
theorem isLen_of (S : Nat) (x i : Int) (hS : S ≤ 56) (hx : 0 ≤ x) (hi : i = x / 2 ^ S) (h1 : 1 ≤ i) (h2 : i ≤ 255) : IsLen x (S + Lib.len8 i) := by
  obtain ⟨a, b, c, d, e⟩ := len_of S x i hx hi h1 h2
  have e1 : ((S : Int) + Lib.len8 i).toNat = S + (Lib.len8 i).toNat := by omega
  unfold IsLen
  rw [e1]
  exact ⟨by omega, by omega, d, e⟩

set_option maxHeartbeats 4000000 in
theorem len64_any (x : Int) (w : World) (h0 : 1 ≤ x) (h1 : x ≤ 18446744073709551615) :
    Calls Tryz.prog 114 #[.int .u64 x] w fun e w' => ∃ k, IsLen x k ∧ e = .returned (.int .i64 k) ∧ w' = w := by
  by_cases t1 : 4294967296 ≤ x
  · by_cases t2 : 65536 ≤ x / 4294967296
    · by_cases t3 : 256 ≤ x / 4294967296 / 65536
      · have c0 : 0 ≤ x / 4294967296 / 65536 / 256 := by omega
        have c1 : x / 4294967296 / 65536 / 256 ≤ 255 := by omega
        have hk : IsLen x (56 + Lib.len8 (x / 4294967296 / 65536 / 256)) := isLen_of 56 x (x / 4294967296 / 65536 / 256) (by omega) (by omega) (by omega) (by omega) c1
        obtain ⟨l0, l1, -, -, -⟩ := len_of 56 x (x / 4294967296 / 65536 / 256) (by omega) (by omega) (by omega) c1
        have K : Hid (IsLen x (56 + Lib.len8 (x / 4294967296 / 65536 / 256))) := hk
        clear hk
        go_enter Tryz.func114, Tryz.ntmps114
        go_wp2
        go_ret
        exact ⟨_, K.out, rfl, rfl⟩
      · have c0 : 0 ≤ x / 4294967296 / 65536 := by omega
        have c1 : x / 4294967296 / 65536 ≤ 255 := by omega
        have hk : IsLen x (48 + Lib.len8 (x / 4294967296 / 65536)) := isLen_of 48 x (x / 4294967296 / 65536) (by omega) (by omega) (by omega) (by omega) c1
        obtain ⟨l0, l1, -, -, -⟩ := len_of 48 x (x / 4294967296 / 65536) (by omega) (by omega) (by omega) c1
        have K : Hid (IsLen x (48 + Lib.len8 (x / 4294967296 / 65536))) := hk
        clear hk
        go_enter Tryz.func114, Tryz.ntmps114
        go_wp2
        go_ret
        exact ⟨_, K.out, rfl, rfl⟩
    · by_cases t3 : 256 ≤ x / 4294967296
      · have c0 : 0 ≤ x / 4294967296 / 256 := by omega
        have c1 : x / 4294967296 / 256 ≤ 255 := by omega
        have hk : IsLen x (40 + Lib.len8 (x / 4294967296 / 256)) := isLen_of 40 x (x / 4294967296 / 256) (by omega) (by omega) (by omega) (by omega) c1
        obtain ⟨l0, l1, -, -, -⟩ := len_of 40 x (x / 4294967296 / 256) (by omega) (by omega) (by omega) c1
        have K : Hid (IsLen x (40 + Lib.len8 (x / 4294967296 / 256))) := hk
        clear hk
        go_enter Tryz.func114, Tryz.ntmps114
        go_wp2
        go_ret
        exact ⟨_, K.out, rfl, rfl⟩
      · have c0 : 0 ≤ x / 4294967296 := by omega
        have c1 : x / 4294967296 ≤ 255 := by omega
        have hk : IsLen x (32 + Lib.len8 (x / 4294967296)) := isLen_of 32 x (x / 4294967296) (by omega) (by omega) (by omega) (by omega) c1
        obtain ⟨l0, l1, -, -, -⟩ := len_of 32 x (x / 4294967296) (by omega) (by omega) (by omega) c1
        have K : Hid (IsLen x (32 + Lib.len8 (x / 4294967296))) := hk
        clear hk
        go_enter Tryz.func114, Tryz.ntmps114
        go_wp2
        go_ret
        exact ⟨_, K.out, rfl, rfl⟩
  · by_cases t2 : 65536 ≤ x
    · by_cases t3 : 256 ≤ x / 65536
      · have c0 : 0 ≤ x / 65536 / 256 := by omega
        have c1 : x / 65536 / 256 ≤ 255 := by omega
        have hk : IsLen x (24 + Lib.len8 (x / 65536 / 256)) := isLen_of 24 x (x / 65536 / 256) (by omega) (by omega) (by omega) (by omega) c1
        obtain ⟨l0, l1, -, -, -⟩ := len_of 24 x (x / 65536 / 256) (by omega) (by omega) (by omega) c1
        have K : Hid (IsLen x (24 + Lib.len8 (x / 65536 / 256))) := hk
        clear hk
        go_enter Tryz.func114, Tryz.ntmps114
        go_wp2
        go_ret
        exact ⟨_, K.out, rfl, rfl⟩
      · have c0 : 0 ≤ x / 65536 := by omega
        have c1 : x / 65536 ≤ 255 := by omega
        have hk : IsLen x (16 + Lib.len8 (x / 65536)) := isLen_of 16 x (x / 65536) (by omega) (by omega) (by omega) (by omega) c1
        obtain ⟨l0, l1, -, -, -⟩ := len_of 16 x (x / 65536) (by omega) (by omega) (by omega) c1
        have K : Hid (IsLen x (16 + Lib.len8 (x / 65536))) := hk
        clear hk
        go_enter Tryz.func114, Tryz.ntmps114
        go_wp2
        go_ret
        exact ⟨_, K.out, rfl, rfl⟩
    · by_cases t3 : 256 ≤ x
      · have c0 : 0 ≤ x / 256 := by omega
        have c1 : x / 256 ≤ 255 := by omega
        have hk : IsLen x (8 + Lib.len8 (x / 256)) := isLen_of 8 x (x / 256) (by omega) (by omega) (by omega) (by omega) c1
        obtain ⟨l0, l1, -, -, -⟩ := len_of 8 x (x / 256) (by omega) (by omega) (by omega) c1
        have K : Hid (IsLen x (8 + Lib.len8 (x / 256))) := hk
        clear hk
        go_enter Tryz.func114, Tryz.ntmps114
        go_wp2
        go_ret
        exact ⟨_, K.out, rfl, rfl⟩
      · have c0 : 0 ≤ x := by omega
        have c1 : x ≤ 255 := by omega
        have hk : IsLen x (0 + Lib.len8 (x)) := isLen_of 0 x (x) (by omega) (by omega) (by omega) (by omega) c1
        obtain ⟨l0, l1, -, -, -⟩ := len_of 0 x (x) (by omega) (by omega) (by omega) c1
        have K : Hid (IsLen x (0 + Lib.len8 (x))) := hk
        clear hk
        go_enter Tryz.func114, Tryz.ntmps114
        go_wp2
        go_ret
        exact ⟨_, K.out, by simp, rfl⟩

set_option maxHeartbeats 400000 in
theorem lz64_any (x : Int) (w : World) (h0 : 1 ≤ x) (h1 : x ≤ 18446744073709551615) :
    Calls Tryz.prog 112 #[.int .u64 x] w fun e w' => ∃ k : Nat, k ≤ 63 ∧ 9223372036854775808 ≤ x * 2 ^ k ∧ x * 2 ^ k ≤ 18446744073709551615 ∧ e = .returned (.int .i64 (k : Int)) ∧ w' = w := by
  go_enter Tryz.func112, Tryz.ntmps112
  go_wp2_with (go_at_call 114; refine (len64_any _ _ (by omega) (by omega)).mono ?_; rintro e w' ⟨k, ⟨k1, k2, k3, k4⟩, rfl, rfl⟩)
  go_ret
  refine ⟨64 - k.toNat, by omega, ?_, ?_, ?_, rfl⟩
  · have e : (9223372036854775808 : Int) = 2 ^ (k.toNat - 1) * 2 ^ (64 - k.toNat) := by
      rw [← Int.pow_add, show k.toNat - 1 + (64 - k.toNat) = 63 by omega]; rfl
    rw [e]
    exact Int.mul_le_mul_of_nonneg_right k3 (Int.pow_nonneg (by omega))
  · have e : (18446744073709551616 : Int) = 2 ^ k.toNat * 2 ^ (64 - k.toNat) := by
      rw [← Int.pow_add, show k.toNat + (64 - k.toNat) = 64 by omega]; rfl
    have h : x * 2 ^ (64 - k.toNat) < 2 ^ k.toNat * 2 ^ (64 - k.toNat) := Int.mul_lt_mul_of_pos_right k4 (Int.pow_pos (by omega))
    omega
  · have e : (((64 - k.toNat : Nat)) : Int) = 64 - k := by omega
    rw [e]
    rfl
end Go.Proofs.YtiniobcknmaigaaGreat

/-
  The contract of math/bits.Div64: two words by one.
-/
namespace Go.Proofs.YtiniobcknmaigaaGreat
open Go.RowKit Qm

theorem and32 (z : Int) (h0 : 0 ≤ z) (h1 : z ≤ 18446744073709551615) : bits .and .u64 z 4294967295 = z % 4294967296 :=
  bits_mask .u64 64 (by decide) (fun n h0 h1 => by rw [IntKind.wrap_u64]; omega) 32 (by omega) z h0 (by omega)

/-- what the words come to, moved up by k bits -/
theorem moved (hi lo y : Int) (k : Nat) (hk : k ≤ 63) (h0 : 0 ≤ hi) (h1 : hi < y) (l0 : 0 ≤ lo) (l1 : lo ≤ 18446744073709551615) (v1 : y * 2 ^ k ≤ 18446744073709551615) :
    ∃ U L : Int, bits .or .u64 (hi * 2 ^ k) (lo / 2 ^ (64 - k)) = U ∧ IntKind.u64.wrap (lo * 2 ^ k) = L ∧ (hi * 18446744073709551616 + lo) * 2 ^ k = U * 18446744073709551616 + L ∧ 0 ≤ U ∧ U < y * 2 ^ k ∧ 0 ≤ L ∧ L ≤ 18446744073709551615 ∧ 0 ≤ hi * 2 ^ k ∧ hi * 2 ^ k ≤ 18446744073709551615 := by
  have hp : (0 : Int) < 2 ^ k := Int.pow_pos (by omega)
  have hp2 : (0 : Int) < 2 ^ (64 - k) := Int.pow_pos (by omega)
  have e64 : (18446744073709551616 : Int) = 2 ^ (64 - k) * 2 ^ k := by rw [← Int.pow_add, show 64 - k + k = 64 by omega]; rfl
  have a0 : 0 ≤ hi * 2 ^ k := Int.mul_nonneg h0 (by omega)
  have a1 : (hi + 1) * 2 ^ k ≤ y * 2 ^ k := Int.mul_le_mul_of_nonneg_right (by omega) (by omega)
  rw [Int.add_mul, Int.one_mul] at a1
  have b0 : 0 ≤ lo / 2 ^ (64 - k) := Int.ediv_nonneg l0 (by omega)
  have b1 : lo / 2 ^ (64 - k) < 2 ^ k := Int.ediv_lt_of_lt_mul hp2 (by rw [Int.mul_comm, ← e64]; omega)
  have hm : hi * 2 ^ k % 2 ^ k = 0 := Int.mul_emod_left _ _
  have hor := bits_join .u64 64 (by decide) (fun n h0 h1 => by rw [IntKind.wrap_u64]; omega) k (hi * 2 ^ k) (lo / 2 ^ (64 - k)) a0 hm (by omega) b0 b1 (by omega)
  have hlo : lo * 2 ^ k / 18446744073709551616 = lo / 2 ^ (64 - k) := by rw [e64]; exact Int.mul_ediv_mul_of_pos_left _ _ hp
  refine ⟨_, _, hor, rfl, ?_, by omega, by omega, ?_, ?_, a0, by omega⟩
  · rw [Int.add_mul, Int.mul_right_comm, IntKind.wrap_u64]
    omega
  · rw [IntKind.wrap_u64]; omega
  · rw [IntKind.wrap_u64]; omega

/-- what is left, reckoned in words that go round -/
theorem chain {U v1 v0 c Q V : Int} (f : Fit U v1 v0 c) (h : Hit U v1 v0 c Q) (hV : V = v1 * 4294967296 + v0) :
    ∃ A1 A2 A3 R : Int, IntKind.u64.wrap (U * 4294967296) = A1 ∧ IntKind.u64.wrap (A1 + c) = A2 ∧ IntKind.u64.wrap (Q * V) = A3 ∧ IntKind.u64.wrap (A2 - A3) = R ∧ R = (U * 4294967296 + c) % (v1 * 4294967296 + v0) ∧ 0 ≤ Q ∧ Q ≤ 4294967295 ∧ 0 ≤ R ∧ R < V := by
  obtain ⟨q0, q1, e, m0, m1⟩ := h.bounds f
  have hVb : V ≤ 18446744073709551615 := by have := f.v11; have := f.v01; omega
  refine ⟨_, _, _, _, rfl, rfl, rfl, rfl, ?_, q0, q1, ?_, ?_⟩
  all_goals
    rw [← hV] at *
    obtain ⟨v10, v11, v00, v01, u0, u1, c0, c1⟩ := f
    simp only [IntKind.wrap_u64]
    generalize Q * V = P at *
    generalize (U * 4294967296 + c) % V = R at *
    omega

set_option maxHeartbeats 4000000 in
theorem div64_big (hi lo y : Int) (w : World) (h0 : 1 ≤ hi) (h1 : hi < y) (l0 : 0 ≤ lo) (l1 : lo ≤ 18446744073709551615) (y1 : y ≤ 18446744073709551615) :
    Calls Tryz.prog 99 #[.int .u64 hi, .int .u64 lo, .int .u64 y] w fun e w' => e = .returned (.tuple #[.int .u64 (dq hi lo y), .int .u64 (dr hi lo y)]) ∧ w' = w := by
  go_enter Tryz.func99, Tryz.ntmps99
  go_wp2_with fail
  refine (lz64_any _ _ (by omega) (by omega)).mono ?_
  rintro e w' ⟨k, hk, hy1, hy2, rfl, rfl⟩
  obtain ⟨U, L, hU, hL, hX, u0, u1, L0, L1, g0, g1⟩ := moved hi lo y k hk (by omega) h1 l0 l1 hy2
  have hT : (0 : Int) < 2 ^ k := Int.pow_pos (by omega)
  obtain ⟨V, hV⟩ : ∃ V, y * 2 ^ k = V := ⟨_, rfl⟩
  rw [hV] at hy1 hy2 u1
  have HX : Hid ((hi * 18446744073709551616 + lo) * 2 ^ k = U * 18446744073709551616 + L) := hX
  clear hX
  have m0 := and32 V (by omega) (by omega)
  have m1 := and32 L (by omega) (by omega)
  obtain ⟨v1, hv1⟩ : ∃ v1, V / 4294967296 = v1 := ⟨_, rfl⟩
  obtain ⟨v0, hv0⟩ : ∃ v0, V % 4294967296 = v0 := ⟨_, rfl⟩
  obtain ⟨c1, hc1⟩ : ∃ c1, L / 4294967296 = c1 := ⟨_, rfl⟩
  obtain ⟨c0, hc0⟩ : ∃ c0, L % 4294967296 = c0 := ⟨_, rfl⟩
  rw [hv0] at m0
  rw [hc0] at m1
  have f : Fit U v1 v0 c1 := ⟨by omega, by omega, by omega, by omega, by omega, by omega, by omega, by omega⟩
  have HV : Hid (V = v1 * 4294967296 + v0) := show V = v1 * 4294967296 + v0 by omega
  have HL : Hid (L = c1 * 4294967296 + c0) := show L = c1 * 4294967296 + c0 by omega
  have hc01 : 0 ≤ c0 ∧ c0 ≤ 4294967295 := by omega
  have gi := Guess.init f
  have F : Hid (Fit U v1 v0 c1) := f
  obtain ⟨v10, v11, v00, v01, -, -, c10, c11⟩ := f
  have G : Hid (Guess U v1 v0 c1 (U / v1) (U - U / v1 * v1)) := gi
  obtain ⟨-, gr0, gr1, gq0, gq1, -, ga0, -⟩ := gi
  clear hv0 hc0
  go_wp2_with fail
  go_loop [15, 16] (fun a b => ∃ q r : Int, Hid (Guess U v1 v0 c1 q r) ∧ a = .int .u64 q ∧ b = .int .u64 r) (fun a _ => (intOf a).toNat)
  case atStart => exact ⟨_, _, G, rfl, rfl⟩
  case round =>
    obtain ⟨q, r, hg, rfl, rfl⟩ := hrel
    have hg' := hg.out
    obtain ⟨sm, r0, r1, q0, q1, -, qa, qb⟩ := hg'
    have HS : Hid (q * v1 + r = U) := sm
    clear sm
    by_cases t : 4294967296 ≤ q ∨ 4294967296 * r + c1 < q * v0
    · obtain ⟨q2, -⟩ := hg.out.less F.out t
      by_cases t3 : r + v1 < 4294967296
      · have HN : Hid (Guess U v1 v0 c1 (q - 1) (r + v1)) := hg.out.next F.out t t3
        by_cases t1 : 4294967296 ≤ q
        · go_wp2
          go_round
          case rel => exact ⟨_, _, HN, rfl, rfl⟩
          case measure => simp [intOf]; omega
        · have t2 : 4294967296 * r + c1 < q * v0 := by omega
          have b2 : q * v0 ≤ 4294967295 * 4294967295 := Int.mul_le_mul (by omega) v01 v00 (by omega)
          clear t
          go_wp2
          go_round
          case rel => exact ⟨_, _, HN, rfl, rfl⟩
          case measure => simp [intOf]; omega
      · have H : Hid (Hit U v1 v0 c1 (q - 1)) := hg.out.broke F.out t t3
        obtain ⟨A1, A2, A3, R, e1, e2, e3, e4, hR, Q0, Q1, R0, R1⟩ := chain F.out H.out HV.out
        have f2 : Fit R v1 v0 c0 := ⟨v10, v11, v00, v01, R0, by have := HV.out; omega, hc01.1, hc01.2⟩
        have gi2 := Guess.init f2
        have F2 : Hid (Fit R v1 v0 c0) := f2
        have G2 : Hid (Guess R v1 v0 c0 (R / v1) (R - R / v1 * v1)) := gi2
        obtain ⟨-, gs0, gs1, gp0, gp1, -, gb0, -⟩ := gi2
        have HR : Hid (R = (U * 4294967296 + c1) % (v1 * 4294967296 + v0)) := hR
        clear hR f2
        by_cases t1 : 4294967296 ≤ q
        · go_wp2_with fail
          go_loop [18, 16] (fun a b => ∃ q r : Int, Hid (Guess R v1 v0 c0 q r) ∧ a = .int .u64 q ∧ b = .int .u64 r) (fun a _ => (intOf a).toNat)
          case atStart => exact ⟨_, _, G2, rfl, rfl⟩
          case round =>
            obtain ⟨p, s, hh, rfl, rfl⟩ := hrel
            have hh' := hh.out
            obtain ⟨sn, s0, s1, p0, p1, -, pa, pb⟩ := hh'
            clear sn
            by_cases o : 4294967296 ≤ p ∨ 4294967296 * s + c0 < p * v0
            · obtain ⟨p2, -⟩ := hh.out.less F2.out o
              by_cases o3 : s + v1 < 4294967296
              · have HN2 : Hid (Guess R v1 v0 c0 (p - 1) (s + v1)) := hh.out.next F2.out o o3
                by_cases o1 : 4294967296 ≤ p
                · go_wp2
                  go_round
                  case rel => exact ⟨_, _, HN2, rfl, rfl⟩
                  case measure => simp [intOf]; omega
                · have o2 : 4294967296 * s + c0 < p * v0 := by omega
                  have ob2 : p * v0 ≤ 4294967295 * 4294967295 := Int.mul_le_mul (by omega) v01 v00 (by omega)
                  clear o
                  go_wp2
                  go_round
                  case rel => exact ⟨_, _, HN2, rfl, rfl⟩
                  case measure => simp [intOf]; omega
              · have H2 : Hid (Hit R v1 v0 c0 (p - 1)) := hh.out.broke F2.out o o3
                obtain ⟨B1, B2, B3, S, d1, d2, d3, d4, hS, P0, P1, S0, S1⟩ := chain F2.out H2.out HV.out
                obtain ⟨z1, z2⟩ := two_steps (hi := hi) (lo := lo) hT hV HV.out (show (hi * 18446744073709551616 + lo) * 2 ^ k = (U * 4294967296 + c1) * 4294967296 + c0 by have a := HX.out; have b := HL.out; omega) F.out H.out HR.out F2.out H2.out
                rw [← hS] at z2
                clear hS
                by_cases o1 : 4294967296 ≤ p
                · go_wp2
                  go_ret2
                  exact ⟨rfl, rfl⟩
                · have o2 : 4294967296 * s + c0 < p * v0 := by omega
                  have ob2 : p * v0 ≤ 4294967295 * 4294967295 := Int.mul_le_mul (by omega) v01 v00 (by omega)
                  clear o
                  go_wp2
                  go_ret2
                  exact ⟨rfl, rfl⟩
            · have H2 : Hid (Hit R v1 v0 c0 p) := hh.out.stands F2.out (by omega)
              obtain ⟨B1, B2, B3, S, d1, d2, d3, d4, hS, P0, P1, S0, S1⟩ := chain F2.out H2.out HV.out
              obtain ⟨z1, z2⟩ := two_steps (hi := hi) (lo := lo) hT hV HV.out (show (hi * 18446744073709551616 + lo) * 2 ^ k = (U * 4294967296 + c1) * 4294967296 + c0 by have a := HX.out; have b := HL.out; omega) F.out H.out HR.out F2.out H2.out
              rw [← hS] at z2
              clear hS
              have o1 : ¬ 4294967296 ≤ p := by omega
              have o2 : ¬ 4294967296 * s + c0 < p * v0 := by omega
              have ob2 : p * v0 ≤ 4294967295 * 4294967295 := Int.mul_le_mul (by omega) v01 v00 (by omega)
              clear o
              go_wp2
              go_ret2
              exact ⟨rfl, rfl⟩
        · have t2 : 4294967296 * r + c1 < q * v0 := by omega
          have b2 : q * v0 ≤ 4294967295 * 4294967295 := Int.mul_le_mul (by omega) v01 v00 (by omega)
          clear t
          go_wp2_with fail
          go_loop [18, 16] (fun a b => ∃ q r : Int, Hid (Guess R v1 v0 c0 q r) ∧ a = .int .u64 q ∧ b = .int .u64 r) (fun a _ => (intOf a).toNat)
          case atStart => exact ⟨_, _, G2, rfl, rfl⟩
          case round =>
            obtain ⟨p, s, hh, rfl, rfl⟩ := hrel
            have hh' := hh.out
            obtain ⟨sn, s0, s1, p0, p1, -, pa, pb⟩ := hh'
            clear sn
            by_cases o : 4294967296 ≤ p ∨ 4294967296 * s + c0 < p * v0
            · obtain ⟨p2, -⟩ := hh.out.less F2.out o
              by_cases o3 : s + v1 < 4294967296
              · have HN2 : Hid (Guess R v1 v0 c0 (p - 1) (s + v1)) := hh.out.next F2.out o o3
                by_cases o1 : 4294967296 ≤ p
                · go_wp2
                  go_round
                  case rel => exact ⟨_, _, HN2, rfl, rfl⟩
                  case measure => simp [intOf]; omega
                · have o2 : 4294967296 * s + c0 < p * v0 := by omega
                  have ob2 : p * v0 ≤ 4294967295 * 4294967295 := Int.mul_le_mul (by omega) v01 v00 (by omega)
                  clear o
                  go_wp2
                  go_round
                  case rel => exact ⟨_, _, HN2, rfl, rfl⟩
                  case measure => simp [intOf]; omega
              · have H2 : Hid (Hit R v1 v0 c0 (p - 1)) := hh.out.broke F2.out o o3
                obtain ⟨B1, B2, B3, S, d1, d2, d3, d4, hS, P0, P1, S0, S1⟩ := chain F2.out H2.out HV.out
                obtain ⟨z1, z2⟩ := two_steps (hi := hi) (lo := lo) hT hV HV.out (show (hi * 18446744073709551616 + lo) * 2 ^ k = (U * 4294967296 + c1) * 4294967296 + c0 by have a := HX.out; have b := HL.out; omega) F.out H.out HR.out F2.out H2.out
                rw [← hS] at z2
                clear hS
                by_cases o1 : 4294967296 ≤ p
                · go_wp2
                  go_ret2
                  exact ⟨rfl, rfl⟩
                · have o2 : 4294967296 * s + c0 < p * v0 := by omega
                  have ob2 : p * v0 ≤ 4294967295 * 4294967295 := Int.mul_le_mul (by omega) v01 v00 (by omega)
                  clear o
                  go_wp2
                  go_ret2
                  exact ⟨rfl, rfl⟩
            · have H2 : Hid (Hit R v1 v0 c0 p) := hh.out.stands F2.out (by omega)
              obtain ⟨B1, B2, B3, S, d1, d2, d3, d4, hS, P0, P1, S0, S1⟩ := chain F2.out H2.out HV.out
              obtain ⟨z1, z2⟩ := two_steps (hi := hi) (lo := lo) hT hV HV.out (show (hi * 18446744073709551616 + lo) * 2 ^ k = (U * 4294967296 + c1) * 4294967296 + c0 by have a := HX.out; have b := HL.out; omega) F.out H.out HR.out F2.out H2.out
              rw [← hS] at z2
              clear hS
              have o1 : ¬ 4294967296 ≤ p := by omega
              have o2 : ¬ 4294967296 * s + c0 < p * v0 := by omega
              have ob2 : p * v0 ≤ 4294967295 * 4294967295 := Int.mul_le_mul (by omega) v01 v00 (by omega)
              clear o
              go_wp2
              go_ret2
              exact ⟨rfl, rfl⟩
    · have H : Hid (Hit U v1 v0 c1 q) := hg.out.stands F.out (by omega)
      obtain ⟨A1, A2, A3, R, e1, e2, e3, e4, hR, Q0, Q1, R0, R1⟩ := chain F.out H.out HV.out
      have f2 : Fit R v1 v0 c0 := ⟨v10, v11, v00, v01, R0, by have := HV.out; omega, hc01.1, hc01.2⟩
      have gi2 := Guess.init f2
      have F2 : Hid (Fit R v1 v0 c0) := f2
      have G2 : Hid (Guess R v1 v0 c0 (R / v1) (R - R / v1 * v1)) := gi2
      obtain ⟨-, gs0, gs1, gp0, gp1, -, gb0, -⟩ := gi2
      have HR : Hid (R = (U * 4294967296 + c1) % (v1 * 4294967296 + v0)) := hR
      clear hR f2
      have t1 : ¬ 4294967296 ≤ q := by omega
      have t2 : ¬ 4294967296 * r + c1 < q * v0 := by omega
      have b2 : q * v0 ≤ 4294967295 * 4294967295 := Int.mul_le_mul (by omega) v01 v00 (by omega)
      clear t
      go_wp2_with fail
      go_loop [18, 16] (fun a b => ∃ q r : Int, Hid (Guess R v1 v0 c0 q r) ∧ a = .int .u64 q ∧ b = .int .u64 r) (fun a _ => (intOf a).toNat)
      case atStart => exact ⟨_, _, G2, rfl, rfl⟩
      case round =>
        obtain ⟨p, s, hh, rfl, rfl⟩ := hrel
        have hh' := hh.out
        obtain ⟨sn, s0, s1, p0, p1, -, pa, pb⟩ := hh'
        clear sn
        by_cases o : 4294967296 ≤ p ∨ 4294967296 * s + c0 < p * v0
        · obtain ⟨p2, -⟩ := hh.out.less F2.out o
          by_cases o3 : s + v1 < 4294967296
          · have HN2 : Hid (Guess R v1 v0 c0 (p - 1) (s + v1)) := hh.out.next F2.out o o3
            by_cases o1 : 4294967296 ≤ p
            · go_wp2
              go_round
              case rel => exact ⟨_, _, HN2, rfl, rfl⟩
              case measure => simp [intOf]; omega
            · have o2 : 4294967296 * s + c0 < p * v0 := by omega
              have ob2 : p * v0 ≤ 4294967295 * 4294967295 := Int.mul_le_mul (by omega) v01 v00 (by omega)
              clear o
              go_wp2
              go_round
              case rel => exact ⟨_, _, HN2, rfl, rfl⟩
              case measure => simp [intOf]; omega
          · have H2 : Hid (Hit R v1 v0 c0 (p - 1)) := hh.out.broke F2.out o o3
            obtain ⟨B1, B2, B3, S, d1, d2, d3, d4, hS, P0, P1, S0, S1⟩ := chain F2.out H2.out HV.out
            obtain ⟨z1, z2⟩ := two_steps (hi := hi) (lo := lo) hT hV HV.out (show (hi * 18446744073709551616 + lo) * 2 ^ k = (U * 4294967296 + c1) * 4294967296 + c0 by have a := HX.out; have b := HL.out; omega) F.out H.out HR.out F2.out H2.out
            rw [← hS] at z2
            clear hS
            by_cases o1 : 4294967296 ≤ p
            · go_wp2
              go_ret2
              exact ⟨rfl, rfl⟩
            · have o2 : 4294967296 * s + c0 < p * v0 := by omega
              have ob2 : p * v0 ≤ 4294967295 * 4294967295 := Int.mul_le_mul (by omega) v01 v00 (by omega)
              clear o
              go_wp2
              go_ret2
              exact ⟨rfl, rfl⟩
        · have H2 : Hid (Hit R v1 v0 c0 p) := hh.out.stands F2.out (by omega)
          obtain ⟨B1, B2, B3, S, d1, d2, d3, d4, hS, P0, P1, S0, S1⟩ := chain F2.out H2.out HV.out
          obtain ⟨z1, z2⟩ := two_steps (hi := hi) (lo := lo) hT hV HV.out (show (hi * 18446744073709551616 + lo) * 2 ^ k = (U * 4294967296 + c1) * 4294967296 + c0 by have a := HX.out; have b := HL.out; omega) F.out H.out HR.out F2.out H2.out
          rw [← hS] at z2
          clear hS
          have o1 : ¬ 4294967296 ≤ p := by omega
          have o2 : ¬ 4294967296 * s + c0 < p * v0 := by omega
          have ob2 : p * v0 ≤ 4294967295 * 4294967295 := Int.mul_le_mul (by omega) v01 v00 (by omega)
          clear o
          go_wp2
          go_ret2
          exact ⟨rfl, rfl⟩
end Go.Proofs.YtiniobcknmaigaaGreat

/-
  The contract of math/bits.Div64, whole: two words by one.
-/
namespace Go.Proofs.YtiniobcknmaigaaGreat
open Go.RowKit Qm

set_option maxHeartbeats 1000000 in
theorem div64_small (lo y : Int) (w : World) (h1 : 1 ≤ y) (l0 : 0 ≤ lo) (l1 : lo ≤ 18446744073709551615) (y1 : y ≤ 18446744073709551615) :
    Calls Tryz.prog 99 #[.int .u64 0, .int .u64 lo, .int .u64 y] w fun e w' => e = .returned (.tuple #[.int .u64 (lo / y), .int .u64 (lo % y)]) ∧ Below w.heap.size w w' := by
  go_enter Tryz.func99, Tryz.ntmps99
  go_wp2
  go_quiet (fail)
  go_wp2
  go_ret2
  exact ⟨rfl, below_drewN (Below.refl _ _) _⟩

theorem div64_any (hi lo y : Int) (w : World) (h0 : 0 ≤ hi) (h1 : hi < y) (l0 : 0 ≤ lo) (l1 : lo ≤ 18446744073709551615) (y1 : y ≤ 18446744073709551615) :
    Calls Tryz.prog 99 #[.int .u64 hi, .int .u64 lo, .int .u64 y] w fun e w' => e = .returned (.tuple #[.int .u64 (dq hi lo y), .int .u64 (dr hi lo y)]) ∧ Below w.heap.size w w' := by
  by_cases h : 1 ≤ hi
  · refine (div64_big hi lo y w h h1 l0 l1 y1).mono ?_
    rintro e w' ⟨he, hw⟩
    subst hw
    exact ⟨he, Below.refl _ _⟩
  · obtain rfl : hi = 0 := by omega
    have e1 : dq 0 lo y = lo / y := by unfold dq; rw [Int.zero_mul, Int.zero_add]
    have e2 : dr 0 lo y = lo % y := by unfold dr; rw [Int.zero_mul, Int.zero_add]
    rw [e1, e2]
    exact div64_small lo y w (by omega) l0 l1 y1
end Go.Proofs.YtiniobcknmaigaaGreat
