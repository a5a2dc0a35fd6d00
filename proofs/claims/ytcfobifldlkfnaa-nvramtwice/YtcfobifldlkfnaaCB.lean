/-
  The contracts of sum's calls of one number, and of the document's.
-/
import Derived.Test.YtcfobifldlkfnaaGR
import Derived.Test.YtcfobifldlkfnaaCrcM
import Derived.Laws.BitsAllLaws
namespace Go.Proofs.Ytcfobifldlkfnaa.Gr
open Go.RowKit Qm

theorem iv_lt32 (c : BitVec 32) : 0 ≤ iv c ∧ iv c < 4294967296 := by have := c.isLt; unfold iv; omega
theorem iv_lt8 (c : BitVec 8) : 0 ≤ iv c ∧ iv c < 256 := by have := c.isLt; unfold iv; omega
theorem ofInt_iv {n : Nat} (c : BitVec n) : BitVec.ofInt n (iv c) = c := by unfold iv; rw [BitVec.ofInt_natCast, BitVec.ofNat_toNat, BitVec.setWidth_eq]
theorem wrap_iv32 (c : BitVec 32) : IntKind.u32.wrap (iv c) = iv c := by have := iv_lt32 c; rw [IntKind.wrap_u32']; omega
theorem wrap_iv8 (c : BitVec 8) : IntKind.u8.wrap (iv c) = iv c := by have := iv_lt8 c; rw [IntKind.wrap_u8']; omega
theorem xor_iv32 (a b : BitVec 32) : bits .xor .u32 (iv a) (iv b) = iv (a ^^^ b) := by
  show IntKind.u32.wrap ((BitVec.ofInt 32 (iv a) ^^^ BitVec.ofInt 32 (iv b)).toNat : Int) = _
  rw [ofInt_iv, ofInt_iv]; exact wrap_iv32 _
theorem xor_iv8 (a b : BitVec 8) : bits .xor .u8 (iv a) (iv b) = iv (a ^^^ b) := by
  show IntKind.u8.wrap ((BitVec.ofInt 8 (iv a) ^^^ BitVec.ofInt 8 (iv b)).toNat : Int) = _
  rw [ofInt_iv, ofInt_iv]; exact wrap_iv8 _
theorem and_iv32 (a b : BitVec 32) : bits .and .u32 (iv a) (iv b) = iv (a &&& b) := by
  show IntKind.u32.wrap ((BitVec.ofInt 32 (iv a) &&& BitVec.ofInt 32 (iv b)).toNat : Int) = _
  rw [ofInt_iv, ofInt_iv]; exact wrap_iv32 _
theorem shr_iv (c : BitVec 32) (k : Nat) : iv c / (2 : Int) ^ k = iv (c >>> k) := by
  unfold iv; rw [BitVec.toNat_ushiftRight, Nat.shiftRight_eq_div_pow]; simp
theorem low_iv (c : BitVec 32) : iv c % 2 = if c.getLsbD 0 then 1 else 0 := by
  unfold iv BitVec.getLsbD
  rw [Nat.testBit_zero]
  by_cases h : c.toNat % 2 = 1
  · simp [h]; omega
  · simp [h]; omega
theorem and1_iv (c : BitVec 32) : bits .and .u32 (iv c) 1 = if c.getLsbD 0 then 1 else 0 := by
  have h := u32_and (iv c) 1 (iv_lt32 c).1 (iv_lt32 c).2 (by decide) (by decide)
  rw [h, ← low_iv]
  show ((((iv c).toNat &&& 1 : Nat)) : Int) = _
  rw [Nat.and_one_is_mod]
  have := (iv_lt32 c).1
  omega
theorem low8_iv (c : BitVec 32) : iv c % 256 = iv (c.setWidth 8) := by
  unfold iv; rw [BitVec.toNat_setWidth]; simp
theorem wide_iv (x : BitVec 8) : iv (wide x) = iv x := by
  unfold iv wide; rw [BitVec.toNat_setWidth]; have := x.isLt; omega

theorem wrap_u32 {n : Int} (h0 : 0 ≤ n) (h1 : n < 4294967296) : IntKind.u32.wrap n = n := by rw [IntKind.wrap_u32']; omega

set_option maxHeartbeats 400000 in
theorem byOne_any (c : BitVec 32) (w : World) :
    Calls Try.prog 44 #[.int .u32 (iv c)] w fun e w' => e = .returned (.int .u32 (iv (on1 c))) ∧ w' = w := by
  have h1 := and1_iv c
  have h3 := shr_iv c 1
  have h4 := xor_iv32 (c >>> 1) 3988292384#32
  have h3' : iv c / (2 : Int) = iv (c >>> 1) := h3
  have h4' : bits .xor .u32 (iv (c >>> 1)) 3988292384 = iv (c >>> 1 ^^^ 3988292384#32) := h4
  unfold on1
  cases hb : c.getLsbD 0
  · simp only [Bool.false_eq_true, ↓reduceIte]
    rw [hb] at h1
    have h2 : bits .and .u32 (iv c) 1 = 0 := h1
    clear h1 h3 h4 h4' hb
    generalize iv (c >>> 1) = H at h3'
    generalize iv c = C at h2 h3' ⊢
    go_enter Try.func44, Try.ntmps44
    go_wp2
    go_ret
    exact ⟨rfl, rfl⟩
  · simp only [↓reduceIte]
    rw [hb] at h1
    have h2 : bits .and .u32 (iv c) 1 = 1 := h1
    clear h1 h3 h4 hb
    generalize iv (c >>> 1 ^^^ 3988292384#32) = X at h4' ⊢
    generalize iv (c >>> 1) = H at h3' h4'
    generalize iv c = C at h2 h3' ⊢
    go_enter Try.func44, Try.ntmps44
    go_wp2
    go_ret
    exact ⟨rfl, rfl⟩
set_option maxHeartbeats 400000 in
theorem on_any (c : BitVec 32) (w : World) :
    Calls Try.prog 43 #[.int .u32 (iv c)] w fun e w' => e = .returned (.int .u32 (iv (on1 c))) ∧ w' = w := by
  have h0 := (iv_lt32 c).1
  have h9 := (iv_lt32 c).2
  have h1 := low_iv c
  have h3' : iv c / (2 : Int) = iv (c >>> 1) := shr_iv c 1
  have h4' : bits .xor .u32 (iv (c >>> 1)) 3988292384 = iv (c >>> 1 ^^^ 3988292384#32) := xor_iv32 (c >>> 1) 3988292384#32
  have m : ∀ C : Int, 0 ≤ C → C < 4294967296 → C.tmod 2 = C % 2 ∧ C.tdiv 2 % 4294967296 = C / 2 := fun C a b => by
    rw [Int.tmod_eq_emod_of_nonneg a, Int.tdiv_eq_ediv_of_nonneg a]; exact ⟨rfl, by omega⟩
  obtain ⟨m1, m2⟩ := m (iv c) h0 h9
  rw [h3'] at m2
  unfold on1
  cases hb : c.getLsbD 0
  · simp only [Bool.false_eq_true, ↓reduceIte]
    rw [hb] at h1
    have h2 : (iv c).tmod 2 = 0 := by rw [m1]; exact h1
    clear h1 h4' hb h3' m m1 h0 h9
    generalize iv (c >>> 1) = H at m2 ⊢
    generalize iv c = C at h2 m2 ⊢
    go_enter Try.func43, Try.ntmps43
    go_wp2
    go_ret
    first | exact ⟨rfl, rfl⟩ | exact ⟨by rw [← m2]; rfl, rfl⟩
  · simp only [↓reduceIte]
    rw [hb] at h1
    have h2 : (iv c).tmod 2 = 1 := by rw [m1]; exact h1
    clear h1 hb h3' m m1 h0 h9
    generalize iv (c >>> 1 ^^^ 3988292384#32) = X at h4' ⊢
    generalize iv (c >>> 1) = H at m2 h4'
    generalize iv c = C at h2 m2 ⊢
    go_enter Try.func43, Try.ntmps43
    go_wp2
    go_ret
    first | exact ⟨rfl, rfl⟩ | exact ⟨by rw [← m2]; rfl, rfl⟩
end Go.Proofs.Ytcfobifldlkfnaa.Gr
