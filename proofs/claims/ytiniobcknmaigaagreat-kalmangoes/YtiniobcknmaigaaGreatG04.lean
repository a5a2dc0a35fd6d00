/-
  Texts joined, in the order in which they stand on one another: Mul At Region.
-/
import Derived.Test.YtiniobcknmaigaaGreatG01
import Derived.Test.YtiniobcknmaigaaGreatG02
import Derived.Test.YtiniobcknmaigaaGreatG03
import Derived.WalkSpells
import Derived.Laws.EntriesVeiled
import Derived.Deep.QuietTactic
import Derived.BigQuiet
import Derived.Lib.QuietBelow
import Derived.Orders
/-
  The contracts of products: math/bits.Mul64, qfix.Mul and the document's Mul.
-/
namespace Go.Proofs.YtiniobcknmaigaaGreat
open Go.RowKit Qm

theorem mask32 (z : Int) (h0 : 0 ≤ z) (h1 : z ≤ 18446744073709551615) : bits .and .u64 z 4294967295 = z % 4294967296 :=
  bits_mask .u64 64 (by decide) (fun n h0 h1 => by rw [IntKind.wrap_u64]; omega) 32 (by omega) z h0 (by omega)
/-- a product of two numbers of two halves each -/
theorem crossed (p q r s : Int) : (p * 4294967296 + q) * (r * 4294967296 + s) = p * r * 18446744073709551616 + (p * s + q * r) * 4294967296 + q * s := by
  have e1 : p * 4294967296 * (r * 4294967296) = p * r * 18446744073709551616 := by
    rw [Int.mul_assoc, Int.mul_left_comm 4294967296 r 4294967296, ← Int.mul_assoc p]
    generalize p * r = t
    omega
  have e2 : p * 4294967296 * s = p * s * 4294967296 := Int.mul_right_comm _ _ _
  have e3 : q * (r * 4294967296) = q * r * 4294967296 := (Int.mul_assoc _ _ _).symm
  rw [Int.add_mul, Int.mul_add, Int.mul_add, e1, e2, e3]
  omega
theorem prod32 {a b : Int} (ha : 0 ≤ a) (hA : a ≤ 4294967295) (hb : 0 ≤ b) (hB : b ≤ 4294967295) : 0 ≤ a * b ∧ a * b ≤ 4294967295 * 4294967295 :=
  ⟨Int.mul_nonneg ha hb, Int.mul_le_mul hA hB hb (by omega)⟩

/-- the two halves of a product -/
def hi64 (n : Int) : Int := n / 18446744073709551616
def lo64 (n : Int) : Int := n % 18446744073709551616
theorem hi64_bd {n : Int} (h0 : 0 ≤ n) (h : n ≤ 4951760157141521099596496896) : 0 ≤ hi64 n ∧ hi64 n ≤ 268435456 := by unfold hi64; omega
theorem lo64_bd (n : Int) : 0 ≤ lo64 n ∧ lo64 n ≤ 18446744073709551615 := by unfold lo64; omega

set_option maxHeartbeats 1000000 in
/-- math/bits.Mul64 -/
theorem mul64_any (x y : Int) (w : World) (hx0 : 0 ≤ x) (hx : x ≤ 18446744073709551615) (hy0 : 0 ≤ y) (hy : y ≤ 18446744073709551615) :
    Calls Tryz.prog 95 #[.int .u64 x, .int .u64 y] w fun e w' => e = .returned (.tuple #[.int .u64 (hi64 (x * y)), .int .u64 (lo64 (x * y))]) ∧ w' = w := by
  have m1 := mask32 x hx0 hx
  have m2 := mask32 y hy0 hy
  obtain ⟨x1, ex1⟩ : ∃ z, x / 4294967296 = z := ⟨_, rfl⟩
  obtain ⟨x0, ex0⟩ : ∃ z, x % 4294967296 = z := ⟨_, rfl⟩
  obtain ⟨y1, ey1⟩ : ∃ z, y / 4294967296 = z := ⟨_, rfl⟩
  obtain ⟨y0, ey0⟩ : ∃ z, y % 4294967296 = z := ⟨_, rfl⟩
  rw [ex0] at m1
  rw [ey0] at m2
  have hxy : x * y = (x1 * 4294967296 + x0) * (y1 * 4294967296 + y0) := by
    rw [show x = x1 * 4294967296 + x0 by omega, show y = y1 * 4294967296 + y0 by omega]
  rw [crossed] at hxy
  have pa := prod32 (a := x1) (b := y1) (by omega) (by omega) (by omega) (by omega)
  have pb := prod32 (a := x1) (b := y0) (by omega) (by omega) (by omega) (by omega)
  have pc := prod32 (a := x0) (b := y1) (by omega) (by omega) (by omega) (by omega)
  have pd := prod32 (a := x0) (b := y0) (by omega) (by omega) (by omega) (by omega)
  obtain ⟨a, ea⟩ : ∃ z, x1 * y1 = z := ⟨_, rfl⟩
  obtain ⟨b, eb⟩ : ∃ z, x1 * y0 = z := ⟨_, rfl⟩
  obtain ⟨c, ec⟩ : ∃ z, x0 * y1 = z := ⟨_, rfl⟩
  obtain ⟨d, ed⟩ : ∃ z, x0 * y0 = z := ⟨_, rfl⟩
  rw [ea, eb, ec, ed] at hxy
  rw [ea] at pa
  rw [eb] at pb
  rw [ec] at pc
  rw [ed] at pd
  have m3 := mask32 (b + d / 4294967296) (by omega) (by omega)
  have hhi : hi64 (x * y) = a + (b + d / 4294967296) / 4294967296 + ((b + d / 4294967296) % 4294967296 + c) / 4294967296 := by
    unfold hi64; omega
  have hlo : lo64 (x * y) = IntKind.u64.wrap (x * y) := by unfold lo64; rw [IntKind.wrap_u64]
  rw [hhi, hlo]
  clear hxy hhi hlo ex0 ey0
  go_enter Tryz.func95, Tryz.ntmps95
  go_wp2
  go_ret2
  exact ⟨rfl, rfl⟩

set_option maxHeartbeats 400000 in
theorem below_any (x c : Int) (w : World) (hx0 : 0 ≤ x) (hx : x ≤ 18446744073709551615) (hc0 : 0 ≤ c) (hc : c ≤ 62) :
    Calls Tryz.prog 97 #[.int .u64 x, .int .i64 c] w fun e w' => e = .returned (.int .u64 (x % 2 ^ c.toNat)) ∧ w' = w := by
  obtain ⟨k, rfl⟩ := Int.eq_ofNat_of_zero_le hc0
  have hk : k ≤ 62 := by omega
  have hp : (2 : Int) ^ k ≤ 4611686018427387904 := by
    have := Nat.pow_le_pow_right (n := 2) (by decide) hk
    have h2 : ((2 ^ k : Nat) : Int) ≤ ((2 ^ 62 : Nat) : Int) := by omega
    simpa using h2
  have hp1 : (1 : Int) ≤ 2 ^ k := by
    have := Nat.two_pow_pos k
    have h2 : ((1 : Nat) : Int) ≤ ((2 ^ k : Nat) : Int) := by omega
    simpa using h2
  have hm := bits_mask .u64 64 (by decide) (fun n h0 h1 => by rw [IntKind.wrap_u64]; omega) k (by omega) x hx0 (by omega)
  simp only [Int.toNat_natCast]
  go_enter Tryz.func97, Tryz.ntmps97
  go_wp2
  go_ret
  exact ⟨rfl, rfl⟩

theorem below24_any (x : Int) (w : World) (hx0 : 0 ≤ x) (hx : x ≤ 18446744073709551615) :
    Calls Tryz.prog 97 #[.int .u64 x, .int .i64 24] w fun e w' => e = .returned (.int .u64 (x % 16777216)) ∧ w' = w := below_any x 24 w hx0 hx (by omega) (by omega)

theorem whole_eq {n : Int} (h0 : 0 ≤ n) (h : hi64 n < 128) : bits .or .u64 (hi64 n * 1099511627776) (lo64 n / 16777216) = n / 16777216 := by
  have h1 : 0 ≤ hi64 n := by unfold hi64; omega
  have hl := lo64_bd n
  rw [bits_join .u64 64 (by decide) (fun n h0 h1 => by rw [IntKind.wrap_u64]; omega) 40 _ _ (by omega) (by omega) (by omega) (by omega) (by omega) (by omega)]
  unfold hi64 lo64
  omega
theorem whole_lt {n : Int} (h0 : 0 ≤ n) (h : hi64 n < 128) : n / 16777216 ≤ 140737488355327 := by unfold hi64 at h; omega
theorem whole_pos {n : Int} (h0 : 0 ≤ n) : 0 ≤ n / 16777216 := by omega
theorem rest_eq (n : Int) : lo64 n % 16777216 = n % 16777216 := by unfold lo64; omega


set_option maxHeartbeats 1000000 in
theorem mul_near (a b : Int) (w : World) (hh : hi64 (pr a b) < 128) :
    Calls Tryz.prog 63 #[.int .i64 a, .int .i64 b] w fun e w' => e = .returned (.tuple #[.int .i64 (mul a b), .bool (mulB a b)]) ∧ Below w.heap.size w w' := by
  have h1 := cl_lo a; have h2 := cl_hi a; have h3 := cl_lo b; have h4 := cl_hi b
  obtain ⟨p1, p2⟩ := pr_bd a b
  obtain ⟨a1, a2⟩ := ab_bd a
  obtain ⟨b1, b2⟩ := ab_bd b
  have hP : ab (cl a) * ab (cl b) = pr a b := rfl
  obtain ⟨l1, l2⟩ := lo64_bd (pr a b)
  obtain ⟨i1, i2⟩ := hi64_bd p1 p2
  have hw := whole_eq p1 hh
  have hwl := whole_lt p1 hh
  have hwp := whole_pos p1
  have hr := rest_eq (pr a b)
  obtain ⟨n1, n2⟩ := near_bd (pr a b / 16777216) (pr a b % 16777216) 16777216
  unfold mul mulB mulv ng
  cases hob : ob2 a b
  all_goals
    go_enter Tryz.func63, Tryz.ntmps63
    go_wp2_with (first | (go_at_call 74; refine (clampBoth_any _ _ _).mono ?_; rintro e w' ⟨rfl, rfl⟩) | (go_at_call 94; refine (signs_any _).mono ?_; rintro e w' ⟨rfl, rfl⟩) | (go_at_call 110; refine (takeOff_any _ _ _ (by omega) (by omega)).mono ?_; rintro e w' ⟨rfl, rfl⟩) | (go_at_call 111; refine (layOn_any _ _ _ (by omega) (by omega)).mono ?_; rintro e w' ⟨rfl, rfl⟩) | (go_at_call 95; refine (mul64_any _ _ _ (by omega) (by omega) (by omega) (by omega)).mono ?_; rintro e w' ⟨rfl, rfl⟩) | (go_at_call 97; refine (below24_any _ _ (by omega) (by omega)).mono ?_; rintro e w' ⟨rfl, rfl⟩) | (go_at_call 96; refine (nearest_any _ _ _ _ (by omega) (by omega) (by omega) (by omega)).mono ?_; rintro e w' ⟨rfl, rfl⟩) | (go_at_call 75; refine (clamp_any _ _).mono ?_; rintro e w' ⟨rfl, rfl⟩))
    go_ret2
    exact ⟨rfl, (Below.refl _ _).alloc (Nat.le_refl _) _⟩

theorem far_ge {n : Int} (h : ¬ hi64 n < 128) : 140737488355328 ≤ n / 16777216 := by unfold hi64 at h; omega

set_option maxHeartbeats 1000000 in
theorem mul_far (a b : Int) (w : World) (hh : ¬ hi64 (pr a b) < 128) :
    Calls Tryz.prog 63 #[.int .i64 a, .int .i64 b] w fun e w' => e = .returned (.tuple #[.int .i64 (mul a b), .bool (mulB a b)]) ∧ Below w.heap.size w w' := by
  have hfar := far_ge hh
  obtain ⟨n1, n2⟩ := near_bd 140737488355328 (pr a b % 16777216) 16777216
  have n3 := (near_bd (pr a b / 16777216) (pr a b % 16777216) 16777216).1
  obtain ⟨e1, e2⟩ := far_same (flip (flip false (cl a)) (cl b)) (m := near (pr a b / 16777216) (pr a b % 16777216) 16777216) (n := near 140737488355328 (pr a b % 16777216) 16777216) (by omega) (by omega)
  unfold mul mulB mulv ng
  rw [e1, e2]
  clear e1 e2 n3 hfar
  have h1 := cl_lo a; have h2 := cl_hi a; have h3 := cl_lo b; have h4 := cl_hi b
  obtain ⟨p1, p2⟩ := pr_bd a b
  obtain ⟨a1, a2⟩ := ab_bd a
  obtain ⟨b1, b2⟩ := ab_bd b
  have hP : ab (cl a) * ab (cl b) = pr a b := rfl
  obtain ⟨l1, l2⟩ := lo64_bd (pr a b)
  obtain ⟨i1, i2⟩ := hi64_bd p1 p2
  have hr := rest_eq (pr a b)
  cases hob : ob2 a b
  all_goals
    go_enter Tryz.func63, Tryz.ntmps63
    go_wp2_with (first | (go_at_call 74; refine (clampBoth_any _ _ _).mono ?_; rintro e w' ⟨rfl, rfl⟩) | (go_at_call 94; refine (signs_any _).mono ?_; rintro e w' ⟨rfl, rfl⟩) | (go_at_call 110; refine (takeOff_any _ _ _ (by omega) (by omega)).mono ?_; rintro e w' ⟨rfl, rfl⟩) | (go_at_call 111; refine (layOn_any _ _ _ (by omega) (by omega)).mono ?_; rintro e w' ⟨rfl, rfl⟩) | (go_at_call 95; refine (mul64_any _ _ _ (by omega) (by omega) (by omega) (by omega)).mono ?_; rintro e w' ⟨rfl, rfl⟩) | (go_at_call 97; refine (below24_any _ _ (by omega) (by omega)).mono ?_; rintro e w' ⟨rfl, rfl⟩) | (go_at_call 96; refine (nearest_any _ _ _ _ (by omega) (by omega) (by omega) (by omega)).mono ?_; rintro e w' ⟨rfl, rfl⟩) | (go_at_call 75; refine (clamp_any _ _).mono ?_; rintro e w' ⟨rfl, rfl⟩))
    go_ret2
    exact ⟨rfl, (Below.refl _ _).alloc (Nat.le_refl _) _⟩

/-- qfix.Mul -/
theorem mul_any (a b : Int) (w : World) :
    Calls Tryz.prog 63 #[.int .i64 a, .int .i64 b] w fun e w' => e = .returned (.tuple #[.int .i64 (mul a b), .bool (mulB a b)]) ∧ Below w.heap.size w w' := by
  by_cases h : hi64 (pr a b) < 128
  · exact mul_near a b w h
  · exact mul_far a b w h

end Go.Proofs.YtiniobcknmaigaaGreat

/-
  A matrix's numbers by their row and column, as a variable holds them; the contract of the closure of mat.Scale.
-/
namespace Go.Proofs.YtiniobcknmaigaaGreat
open Go.RowKit Go.Sort Qm

/-- a variable that holds a function of a matrix's numbers -/
def AtBox (w : World) (P bk c : Nat) (xs : List Int) : Prop :=
  w.cell? ⟨P, 0, none⟩ = some (.func (.func 89) #[] #[.pointer (some ⟨bk, 0, none⟩)]) ∧ P < w.heap.size ∧ ∃ R sl, w.heap[bk]? = some (.cells #[.int .i64 R, .int .i64 c, sl] 24 (0, 0)) ∧ Sees w sl xs
theorem AtBox.below {w w' : World} {P bk c : Nat} {xs : List Int} (h : AtBox w P bk c xs) (hb : Below w.heap.size w w') : AtBox w' P bk c xs := by
  obtain ⟨h1, h2, R, sl, h3, h4⟩ := h
  exact ⟨by rw [hb.cell (p := ⟨P, 0, none⟩) h2]; exact h1, Nat.lt_of_lt_of_le h2 hb.size, R, sl, by rw [hb.block bk (lt_of_block h3)]; exact h3, h4.below hb⟩
theorem atbox_mk {w : World} {R : Int} {c : Nat} {sl : Value} {xs : List Int} (hs : Sees w sl xs) :
    AtBox ((w.alloc (.cells #[.int .i64 R, .int .i64 c, sl] 24)).alloc (.cells #[.func (.func 89) #[] #[.pointer (some ⟨w.heap.size, 0, none⟩)]] 83)) (w.heap.size + 1) w.heap.size c xs := by
  obtain ⟨h1, h2⟩ := allocs2 w (.cells #[.int .i64 R, .int .i64 c, sl] 24) (.cells #[.func (.func 89) #[] #[.pointer (some ⟨w.heap.size, 0, none⟩)]] 83)
  exact ⟨cell_of_one h2, lt_of_block h2, R, sl, h1, (hs.alloc _).alloc _⟩
/-- a call of it -/
theorem at_any (i j c : Nat) (P bk : Nat) (xs : List Int) (w : World) (hi : i ≤ 8) (hj : j < c) (hc : c ≤ 8) (hn : xs.length ≤ 64) (hx : i * c + j < xs.length) (h : AtBox w P bk c xs) :
    Calls Tryz.prog 89 #[.int .i64 i, .int .i64 j, .pointer (some ⟨bk, 0, none⟩)] w fun e w' => e = .returned (.int .i64 (ge xs (i * c + j))) ∧ w' = w := by
  obtain ⟨_, _, R, sl, h3, h4⟩ := h
  exact numbers1_any i j c bk R sl xs w hi hj hc hn hx h3 h4
/-- .. inside a region that draws -/
theorem at_calm (i j c : Nat) (P bk : Nat) (xs : List Int) (w : World) (hi : i ≤ 8) (hj : j < c) (hc : c ≤ 8) (hn : xs.length ≤ 64) (hx : i * c + j < xs.length) (h : AtBox w P bk c xs) (d : Nat) (os : Array Obj) :
    Calls Tryz.prog 89 #[.int .i64 i, .int .i64 j, .pointer (some ⟨bk, 0, none⟩)] (grow (redrawn w d) os) fun e w'' => e = .returned (.int .i64 (ge xs (i * c + j))) ∧ ∃ p : Regrown, w'' = grow (redrawn w p.d) p.os :=
  Calls.regrown_of ((at_any i j c P bk xs _ hi hj hc hn hx (h.below (below_regrown w d os))).mono fun e w' hh => ⟨hh.1, by rw [hh.2]; exact Below.refl _ _⟩)
theorem mul_calm (a b : Int) (w : World) (d : Nat) (os : Array Obj) : Calls Tryz.prog 63 #[.int .i64 a, .int .i64 b] (grow (redrawn w d) os) fun e w'' => e = .returned (.tuple #[.int .i64 (mul a b), .bool (mulB a b)]) ∧ ∃ p : Regrown, w'' = grow (redrawn w p.d) p.os :=
  Calls.regrown_of (mul_any a b _)

set_option maxHeartbeats 400000 in
theorem scale1_any (i j c : Nat) (P bk K : Nat) (k : Int) (xs : List Int) (w : World) (hi : i ≤ 8) (hj : j < c) (hc : c ≤ 8) (hn : xs.length ≤ 64) (hx : i * c + j < xs.length) (h : AtBox w P bk c xs)
    (hk : w.cell? ⟨K, 0, none⟩ = some (.int .i64 k)) :
    Calls Tryz.prog 113 #[.int .i64 i, .int .i64 j, .pointer (some ⟨P, 0, none⟩), .pointer (some ⟨K, 0, none⟩)] w fun e w' => e = .returned (.tuple #[.int .i64 (mul (ge xs (i * c + j)) k), .bool (mulB (ge xs (i * c + j)) k)]) ∧ Below w.heap.size w w' := by
  have k1 := cell_regrown h.1
  have k2 := cell_regrown hk
  have cA := at_calm i j c P bk xs w hi hj hc hn hx h
  obtain ⟨x, hx'⟩ : ∃ x, ge xs (i * c + j) = x := ⟨_, rfl⟩
  rw [hx'] at cA ⊢
  clear hx' h hx
  have cM := mul_calm x k w
  go_enter Tryz.func113, Tryz.ntmps113
  go_wp2
  refine wp_region_quiet_below (by kernel_rfl) (by kernel_rfl) ?_
  repeat (quiet_step (first | exact cA _ _ | exact cM _ _))
  refine wpQuiet_nil ?_
  intro _ hw'
  obtain ⟨⟨dq, osq⟩, hw''⟩ := hw'
  subst hw''
  go_wp2
  go_ret2
  exact ⟨rfl, below_regrown w dq osq⟩
end Go.Proofs.YtiniobcknmaigaaGreat

/-
  A region that draws its order, by what holds whichever of its operations have been done: 'atA, atB := numbers(a), numbers(b)'.
-/
namespace Go.Proofs.YtiniobcknmaigaaGreat
open Go.RowKit Go.Sort Qm

theorem wpAny_inv {P : Program} {md : Region.Mode} {ops : Array Oper} {Q : Exit → Act → World → Prop} (S : Array Bool → Act → World → Prop) (cnt : Array Bool → Nat)
    (hstep : ∀ listed a w i, S listed a w → i ∈ Region.ready md ops listed → cnt (listed.setIfInBounds i true) < cnt listed ∧ wpOp P ops Q i (S (listed.setIfInBounds i true)) a w)
    (hend : ∀ listed a w, S listed a w → Region.ready md ops listed = [] → Q .normal a w) :
    ∀ (fuel : Nat) (listed : Array Bool) (a : Act) (w : World), S listed a w → cnt listed ≤ fuel → wpAny P md ops Q fuel listed a w := by
  intro fuel
  induction fuel with
  | zero =>
    intro listed a w hs hc
    have hr : Region.ready md ops listed = [] := by
      apply List.eq_nil_iff_forall_not_mem.2
      intro i hi
      have := (hstep listed a w i hs hi).1
      omega
    exact ⟨hr, hend _ _ _ hs hr⟩
  | succ fuel ih =>
    intro listed a w hs hc
    refine ⟨fun hr => hend _ _ _ hs hr, fun i hi => ?_⟩
    obtain ⟨h1, h2⟩ := hstep listed a w i hs hi
    exact wpOp_mono (fun a' w' h => ih _ _ _ h (by omega)) h2

theorem wpOp_of {P : Program} {ops : Array Oper} {Q : Exit → Act → World → Prop} {i : Nat} {K : Act → World → Prop} {a : Act} {w : World} (o : Oper) (h : ops[i]? = some o) (hg : o.guard = none) (hw : o.wp P a w K Q) : wpOp P ops Q i K a w := by
  unfold wpOp
  rw [h]
  simp only [Region.wanted, hg, if_true]
  exact .inl hw

/-- the eight operations of 'atA, atB := numbers(a), numbers(b)' -/
def atOps (pos : String) (sA sB dA fA dB fB qA qB : Nat) : Array Oper :=
  #[{ dst := some dA, op := Op.load 24 (Operand.tmp sA), type := 24, pos := pos, after := #[], guard := none },
    { dst := some fA, op := Op.call { callee := Callee.value (Operand.func 52), args := #[Operand.tmp dA], argTypes := #[24] }, type := 83, pos := pos, after := #[{ on := 0, ground := Ground.data }], guard := none },
    { dst := some dB, op := Op.load 24 (Operand.tmp sB), type := 24, pos := pos, after := #[], guard := none },
    { dst := some fB, op := Op.call { callee := Callee.value (Operand.func 52), args := #[Operand.tmp dB], argTypes := #[24] }, type := 83, pos := pos, after := #[{ on := 2, ground := Ground.data }, { on := 1, ground := Ground.chain }], guard := none },
    { dst := some qA, op := Op.alloc 83, type := 0, pos := pos, after := #[], guard := none },
    { dst := some qB, op := Op.alloc 83, type := 0, pos := pos, after := #[], guard := none },
    { dst := none, op := Op.store 83 (Operand.tmp qA) (Operand.tmp fA), type := 0, pos := pos,
      after := #[{ on := 4, ground := Ground.data }, { on := 1, ground := Ground.data }, { on := 3, ground := Ground.chain }, { on := 0, ground := Ground.phase }, { on := 1, ground := Ground.phase }, { on := 2, ground := Ground.textOnly Departure.lateStores },
        { on := 3, ground := Ground.textOnly Departure.lateStoresUnsure }, { on := 4, ground := Ground.phase }, { on := 5, ground := Ground.phase }], guard := none },
    { dst := none, op := Op.store 83 (Operand.tmp qB) (Operand.tmp fB), type := 0, pos := pos,
      after := #[{ on := 5, ground := Ground.data }, { on := 3, ground := Ground.data }, { on := 6, ground := Ground.chain }, { on := 0, ground := Ground.phase }, { on := 1, ground := Ground.phase }, { on := 2, ground := Ground.phase },
        { on := 3, ground := Ground.phase }, { on := 4, ground := Ground.phase }, { on := 5, ground := Ground.phase }, { on := 6, ground := Ground.phase }], guard := none }]

/-- what must have been done ahead of each -/
def atPre (b0 b1 b2 b3 b4 b5 b6 b7 : Bool) : Nat → Bool
  | 0 => !b0
  | 1 => !b1 && b0
  | 2 => !b2
  | 3 => !b3 && b2 && b1
  | 4 => !b4
  | 5 => !b5
  | 6 => !b6 && b0 && b1 && b2 && b3 && b4 && b5
  | 7 => !b7 && b0 && b1 && b2 && b3 && b4 && b5 && b6
  | _ => false
def atCnt (l : Array Bool) : Nat := (l.toList.map fun b => bif b then 0 else 1).sum

theorem at_ready (pos : String) (sA sB dA fA dB fB qA qB : Nat) (b0 b1 b2 b3 b4 b5 b6 b7 : Bool) (h1 : b3 = true → b2 = true) (i : Nat)
    (hi : i ∈ Region.ready .any (atOps pos sA sB dA fA dB fB qA qB) #[b0, b1, b2, b3, b4, b5, b6, b7]) : atPre b0 b1 b2 b3 b4 b5 b6 b7 i = true := by
  simp only [Region.ready, atOps, List.mem_filter, List.mem_range, Bool.and_eq_true] at hi
  obtain ⟨hi8, hl, ha⟩ := hi
  have hi8 : i < 8 := hi8
  rcases (by omega : i = 0 ∨ i = 1 ∨ i = 2 ∨ i = 3 ∨ i = 4 ∨ i = 5 ∨ i = 6 ∨ i = 7) with rfl | rfl | rfl | rfl | rfl | rfl | rfl | rfl
  all_goals simp [Region.binds] at hl ha
  all_goals simp [atPre, hl, ha]
  all_goals simp_all
theorem at_done (pos : String) (sA sB dA fA dB fB qA qB : Nat) (b0 b1 b2 b3 b4 b5 b6 b7 : Bool)
    (h : Region.ready .any (atOps pos sA sB dA fA dB fB qA qB) #[b0, b1, b2, b3, b4, b5, b6, b7] = []) : b0 = true ∧ b1 = true ∧ b2 = true ∧ b3 = true ∧ b4 = true ∧ b5 = true ∧ b6 = true ∧ b7 = true := by
  have m : ∀ i, ¬ i ∈ Region.ready .any (atOps pos sA sB dA fA dB fB qA qB) #[b0, b1, b2, b3, b4, b5, b6, b7] := fun i hi => by rw [h] at hi; cases hi
  simp only [Region.ready, atOps, List.mem_filter, List.mem_range, Bool.and_eq_true] at m
  have m0 := m 0
  have m1 := m 1
  have m2 := m 2
  have m3 := m 3
  have m4 := m 4
  have m5 := m 5
  have m6 := m 6
  have m7 := m 7
  clear m h
  simp [Region.binds] at m0 m1 m2 m3 m4 m5 m6 m7
  simp_all

section
variable {a : Act} {w : World} {K : Act → World → Prop} {Q : Exit → Act → World → Prop} {o : Oper}
theorem op_load {s : Nat} {b : Nat} {R c : Int} {ao : Option Addr} {n cap : Nat} (hop : o.op = Op.load 24 (Operand.tmp s)) (he : a.tmps[s]?.getD undef = .pointer (some ⟨b, 0, none⟩)) (hb : w.heap[b]? = some (.cells #[.int .i64 R, .int .i64 c, .slice ao n cap] 24 (0, 0)))
    (hk : K (a.put o.dst (.agg #[.int .i64 R, .int .i64 c, .slice ao n cap])) w) : o.wp Tryz.prog a w K Q := by
  obtain ⟨c0, c1, c2, _⟩ := mat_cells hb
  unfold Oper.wp
  simp [execOp, hop, go_sem, he, c0, c1, c2]
  exact hk
theorem op_numbers {s : Nat} {R c : Int} {ao : Option Addr} {n cap : Nat} (hop : o.op = Op.call { callee := Callee.value (Operand.func 52), args := #[Operand.tmp s], argTypes := #[24] }) (he : a.tmps[s]?.getD undef = .agg #[.int .i64 R, .int .i64 c, .slice ao n cap])
    (hk : K (a.put o.dst (.func (.func 89) #[] #[.pointer (some ⟨w.heap.size, 0, none⟩)])) (w.alloc (.cells #[.int .i64 R, .int .i64 c, .slice ao n cap] 24))) : o.wp Tryz.prog a w K Q := by
  unfold Oper.wp
  simp [execOp, hop, go_sem, he]
  refine (numbers_any R c ao n cap w).mono ?_
  rintro e w' ⟨rfl, rfl⟩
  exact hk
theorem op_alloc (hop : o.op = Op.alloc 83) (hk : K (a.put o.dst (.pointer (some ⟨w.heap.size, 0, none⟩))) (w.alloc (.cells #[.nilFunc] 83))) : o.wp Tryz.prog a w K Q := by
  unfold Oper.wp
  simp [execOp, hop, go_sem]
  exact hk
theorem op_store {p f b : Nat} {fn : Fn} {fi ca : Array Value} {x : Value} (hd : o.dst = none) (hop : o.op = Op.store 83 (Operand.tmp p) (Operand.tmp f)) (hp : a.tmps[p]?.getD undef = .pointer (some ⟨b, 0, none⟩)) (hf : a.tmps[f]?.getD undef = .func fn fi ca) (hb : w.heap[b]? = some (.cells #[x] 83 (0, 0)))
    (hk : K a (w.setCell ⟨b, 0, none⟩ (.func fn fi ca))) : o.wp Tryz.prog a w K Q := by
  have c1 := cell_of_one hb
  have c2 := free_of_one hb
  unfold Oper.wp
  simp [execOp, hop, go_sem, hp, hf, c1, c2, hd]
  exact hk
end

abbrev atFn (k : Nat) : Value := .func (.func 89) #[] #[.pointer (some ⟨k, 0, none⟩)]
/-- what holds while they are done -/
def AtInv (fr : Value → Value → Value → Value → Value → Value → Act) (w0 : World) (A B : Value) (oA oB : Obj) (l : Array Bool) (a : Act) (w : World) : Prop :=
  ∃ b0 b1 b2 b3 b4 b5 b6 b7 : Bool, l = #[b0, b1, b2, b3, b4, b5, b6, b7] ∧ (b3 = true → b2 = true) ∧ (b6 = true → b1 = true ∧ b3 = true ∧ b4 = true ∧ b5 = true) ∧ (b7 = true → b1 = true ∧ b3 = true ∧ b4 = true ∧ b5 = true) ∧
  ∃ (xA yA xB yB pA pB : Value) (kA kB nA nB : Nat), a = fr xA yA xB yB pA pB ∧ Below w0.heap.size w0 w ∧ (b0 = true → xA = A) ∧ (b2 = true → xB = B) ∧
    (b1 = true → yA = atFn kA ∧ w.heap[kA]? = some oA) ∧ (b3 = true → yB = atFn kB ∧ w.heap[kB]? = some oB) ∧
    (b4 = true → pA = .pointer (some ⟨nA, 0, none⟩) ∧ w.heap[nA]? = some (.cells #[bif b6 then atFn kA else .nilFunc] 83 (0, 0))) ∧
    (b5 = true → pB = .pointer (some ⟨nB, 0, none⟩) ∧ w.heap[nB]? = some (.cells #[bif b7 then atFn kB else .nilFunc] 83 (0, 0))) ∧ (b4 = true → b5 = true → nA ≠ nB) ∧
    (b4 = true → w0.heap.size ≤ nA) ∧ (b5 = true → w0.heap.size ≤ nB)

set_option maxRecDepth 20000 in
theorem two_ats {id : Nat} {pos : String} {sA sB dA fA dB fB qA qB : Nat} {Q : Exit → Act → World → Prop} {w0 : World} (fr : Value → Value → Value → Value → Value → Value → Act)
    {Ra ca Rb cb : Int} {ao bo : Option Addr} {n cap m cap' : Nat} {BA BB : Nat}
    (hA : w0.heap[BA]? = some (.cells #[.int .i64 Ra, .int .i64 ca, .slice ao n cap] 24 (0, 0))) (hB : w0.heap[BB]? = some (.cells #[.int .i64 Rb, .int .i64 cb, .slice bo m cap'] 24 (0, 0)))
    (p1 : ∀ a b c d e f x, (fr a b c d e f).put (some dA) x = fr x b c d e f) (p2 : ∀ a b c d e f x, (fr a b c d e f).put (some fA) x = fr a x c d e f) (p3 : ∀ a b c d e f x, (fr a b c d e f).put (some dB) x = fr a b x d e f)
    (p4 : ∀ a b c d e f x, (fr a b c d e f).put (some fB) x = fr a b c x e f) (p5 : ∀ a b c d e f x, (fr a b c d e f).put (some qA) x = fr a b c d x f) (p6 : ∀ a b c d e f x, (fr a b c d e f).put (some qB) x = fr a b c d e x)
    (e1 : ∀ a b c d e f, (fr a b c d e f).tmps[sA]?.getD undef = .pointer (some ⟨BA, 0, none⟩)) (e2 : ∀ a b c d e f, (fr a b c d e f).tmps[sB]?.getD undef = .pointer (some ⟨BB, 0, none⟩))
    (e3 : ∀ a b c d e f, (fr a b c d e f).tmps[dA]?.getD undef = a) (e4 : ∀ a b c d e f, (fr a b c d e f).tmps[fA]?.getD undef = b) (e5 : ∀ a b c d e f, (fr a b c d e f).tmps[dB]?.getD undef = c)
    (e6 : ∀ a b c d e f, (fr a b c d e f).tmps[fB]?.getD undef = d) (e7 : ∀ a b c d e f, (fr a b c d e f).tmps[qA]?.getD undef = e) (e8 : ∀ a b c d e f, (fr a b c d e f).tmps[qB]?.getD undef = f)
    {a : Act} (x1 x2 x3 x4 x5 x6 : Value) (h0 : a = fr x1 x2 x3 x4 x5 x6) (hm : Tryz.prog.follows .mixedOrders = true)
    (hQ : ∀ (kA kB nA nB : Nat) (w : World), Below w0.heap.size w0 w → w.heap[kA]? = some (.cells #[.int .i64 Ra, .int .i64 ca, .slice ao n cap] 24 (0, 0)) → w.heap[kB]? = some (.cells #[.int .i64 Rb, .int .i64 cb, .slice bo m cap'] 24 (0, 0)) →
      w.heap[nA]? = some (.cells #[atFn kA] 83 (0, 0)) → w.heap[nB]? = some (.cells #[atFn kB] 83 (0, 0)) →
      Q .normal (fr (.agg #[.int .i64 Ra, .int .i64 ca, .slice ao n cap]) (atFn kA) (.agg #[.int .i64 Rb, .int .i64 cb, .slice bo m cap']) (atFn kB) (.pointer (some ⟨nA, 0, none⟩)) (.pointer (some ⟨nB, 0, none⟩))) w) :
    (Code.region id (atOps pos sA sB dA fA dB fB qA qB) true).wp Tryz.prog Q a w0 := by
  refine wp_region_any hm (wpAny_inv (AtInv fr w0 (.agg #[.int .i64 Ra, .int .i64 ca, .slice ao n cap]) (.agg #[.int .i64 Rb, .int .i64 cb, .slice bo m cap']) (.cells #[.int .i64 Ra, .int .i64 ca, .slice ao n cap] 24 (0, 0)) (.cells #[.int .i64 Rb, .int .i64 cb, .slice bo m cap'] 24 (0, 0)))
    atCnt ?_ ?_ _ _ _ _ ?_ ?_)
  · rintro l a w i ⟨b0, b1, b2, b3, b4, b5, b6, b7, rfl, g1, g2, g3, xA, yA, xB, yB, pA, pB, kA, kB, nA, nB, rfl, hb, k0, k2, k1, k3, k4, k5, k6, k7, k8⟩ hi
    have hp := at_ready pos sA sB dA fA dB fB qA qB b0 b1 b2 b3 b4 b5 b6 b7 g1 i hi
    have hi8 : i < 8 := by
      simp only [Region.ready, atOps, List.mem_filter, List.mem_range] at hi
      exact hi.1
    clear hi
    have hlt : ∀ {k : Nat} {o : Obj}, w.heap[k]? = some o → k < w.heap.size := fun h => lt_of_block h
    rcases (by omega : i = 0 ∨ i = 1 ∨ i = 2 ∨ i = 3 ∨ i = 4 ∨ i = 5 ∨ i = 6 ∨ i = 7) with rfl | rfl | rfl | rfl | rfl | rfl | rfl | rfl
    all_goals simp [atPre] at hp
    · subst hp
      refine ⟨by simp [atCnt], wpOp_of _ rfl rfl (op_load rfl (e1 _ _ _ _ _ _) (keep hb hA) ?_)⟩
      show AtInv _ _ _ _ _ _ #[true, b1, b2, b3, b4, b5, b6, b7] ((fr xA yA xB yB pA pB).put (some dA) _) w
      rw [p1]
      exact ⟨_, _, _, _, _, _, _, _, rfl, g1, g2, g3, _, _, _, _, _, _, kA, kB, nA, nB, rfl, hb, fun _ => rfl, k2, k1, k3, k4, k5, k6, k7, k8⟩
    · obtain ⟨rfl, rfl⟩ := hp
      have h6 : b6 = false := by cases h : b6 with | false => rfl | true => exact absurd (g2 h).1 (by simp)
      subst h6
      refine ⟨by simp [atCnt], wpOp_of _ rfl rfl (op_numbers rfl (by rw [e3]; exact k0 rfl) ?_)⟩
      show AtInv _ _ _ _ _ _ #[true, true, b2, b3, b4, b5, false, b7] ((fr xA yA xB yB pA pB).put (some fA) _) _
      rw [p2]
      exact ⟨_, _, _, _, _, _, _, _, rfl, g1, fun h => absurd h (by simp), fun h => absurd (g3 h).1 (by simp), _, _, _, _, _, _, w.heap.size, kB, nA, nB, rfl, bt hb (box_below _ _), k0, k2, fun _ => ⟨rfl, heap_new w _⟩, fun h => ⟨(k3 h).1, heap_old (k3 h).2 _⟩, fun h => ⟨(k4 h).1, heap_old (k4 h).2 _⟩, fun h => ⟨(k5 h).1, heap_old (k5 h).2 _⟩, k6, k7, k8⟩
    · subst hp
      refine ⟨by simp [atCnt], wpOp_of _ rfl rfl (op_load rfl (e2 _ _ _ _ _ _) (keep hb hB) ?_)⟩
      show AtInv _ _ _ _ _ _ #[b0, b1, true, b3, b4, b5, b6, b7] ((fr xA yA xB yB pA pB).put (some dB) _) w
      rw [p3]
      exact ⟨_, _, _, _, _, _, _, _, rfl, fun _ => rfl, g2, g3, _, _, _, _, _, _, kA, kB, nA, nB, rfl, hb, k0, fun _ => rfl, k1, k3, k4, k5, k6, k7, k8⟩
    · obtain ⟨⟨rfl, rfl⟩, rfl⟩ := hp
      have h7 : b7 = false := by cases h : b7 with | false => rfl | true => exact absurd (g3 h).2.1 (by simp)
      subst h7
      refine ⟨by simp [atCnt], wpOp_of _ rfl rfl (op_numbers rfl (by rw [e5]; exact k2 rfl) ?_)⟩
      show AtInv _ _ _ _ _ _ #[b0, true, true, true, b4, b5, b6, false] ((fr xA yA xB yB pA pB).put (some fB) _) _
      rw [p4]
      exact ⟨_, _, _, _, _, _, _, _, rfl, fun _ => rfl, fun h => absurd (g2 h).2.1 (by simp), fun h => absurd h (by simp), _, _, _, _, _, _, kA, w.heap.size, nA, nB, rfl, bt hb (box_below _ _), k0, k2, fun h => ⟨(k1 h).1, heap_old (k1 h).2 _⟩, fun _ => ⟨rfl, heap_new w _⟩, fun h => ⟨(k4 h).1, heap_old (k4 h).2 _⟩, fun h => ⟨(k5 h).1, heap_old (k5 h).2 _⟩, k6, k7, k8⟩
    · subst hp
      have h6 : b6 = false := by cases h : b6 with | false => rfl | true => exact absurd (g2 h).2.2.1 (by simp)
      subst h6
      refine ⟨by simp [atCnt], wpOp_of _ rfl rfl (op_alloc rfl ?_)⟩
      show AtInv _ _ _ _ _ _ #[b0, b1, b2, b3, true, b5, false, b7] ((fr xA yA xB yB pA pB).put (some qA) _) _
      rw [p5]
      exact ⟨_, _, _, _, _, _, _, _, rfl, g1, fun h => absurd h (by simp), fun h => absurd (g3 h).2.2.1 (by simp), _, _, _, _, _, _, kA, kB, w.heap.size, nB, rfl, bt hb (box_below _ _), k0, k2, fun h => ⟨(k1 h).1, heap_old (k1 h).2 _⟩, fun h => ⟨(k3 h).1, heap_old (k3 h).2 _⟩, fun _ => ⟨rfl, heap_new w _⟩, fun h => ⟨(k5 h).1, heap_old (k5 h).2 _⟩, fun _ h => by have := hlt (k5 h).2; omega, fun _ => hb.size, k8⟩
    · subst hp
      have h7 : b7 = false := by cases h : b7 with | false => rfl | true => exact absurd (g3 h).2.2.2 (by simp)
      subst h7
      refine ⟨by simp [atCnt], wpOp_of _ rfl rfl (op_alloc rfl ?_)⟩
      show AtInv _ _ _ _ _ _ #[b0, b1, b2, b3, b4, true, b6, false] ((fr xA yA xB yB pA pB).put (some qB) _) _
      rw [p6]
      exact ⟨_, _, _, _, _, _, _, _, rfl, g1, fun h => absurd (g2 h).2.2.2 (by simp), fun h => absurd h (by simp), _, _, _, _, _, _, kA, kB, nA, w.heap.size, rfl, bt hb (box_below _ _), k0, k2, fun h => ⟨(k1 h).1, heap_old (k1 h).2 _⟩, fun h => ⟨(k3 h).1, heap_old (k3 h).2 _⟩, fun h => ⟨(k4 h).1, heap_old (k4 h).2 _⟩, fun _ => ⟨rfl, heap_new w _⟩, fun h _ => by have := hlt (k4 h).2; omega, k7, fun _ => hb.size⟩
    · obtain ⟨⟨⟨⟨⟨⟨rfl, rfl⟩, rfl⟩, rfl⟩, rfl⟩, rfl⟩, rfl⟩ := hp
      obtain ⟨rfl, j1⟩ := k1 rfl
      obtain ⟨rfl, j3⟩ := k3 rfl
      obtain ⟨rfl, j4⟩ := k4 rfl
      obtain ⟨rfl, j5⟩ := k5 rfl
      refine ⟨by simp [atCnt], wpOp_of _ rfl rfl (op_store rfl rfl (e7 _ _ _ _ _ _) (e4 _ _ _ _ _ _) j4 ?_)⟩
      have ne : ∀ {k : Nat} {c : Array Value}, w.heap[k]? = some (.cells c 24 (0, 0)) → k ≠ nA := fun h e => by subst e; rw [j4] at h; simp at h
      have st : ∀ {k : Nat} {o : Obj}, k ≠ nA → w.heap[k]? = some o → (w.setCell ⟨nA, 0, none⟩ (atFn kA)).heap[k]? = some o := fun h1 h2 => (Below.heap_setCell _ _ _ _ h1).trans h2
      exact ⟨_, _, _, _, _, _, _, _, rfl, g1, fun _ => ⟨rfl, rfl, rfl, rfl⟩, g3, _, _, _, _, _, _, kA, kB, nA, nB, rfl, hb.setCell (p := ⟨nA, 0, none⟩) (k7 rfl) _, k0, k2, fun _ => ⟨rfl, st (ne j1) j1⟩, fun _ => ⟨rfl, st (ne j3) j3⟩, fun _ => ⟨rfl, one_setCell j4⟩, fun _ => ⟨rfl, st (k6 rfl rfl).symm j5⟩, k6, k7, k8⟩
    · obtain ⟨⟨⟨⟨⟨⟨⟨rfl, rfl⟩, rfl⟩, rfl⟩, rfl⟩, rfl⟩, rfl⟩, rfl⟩ := hp
      obtain ⟨rfl, j1⟩ := k1 rfl
      obtain ⟨rfl, j3⟩ := k3 rfl
      obtain ⟨rfl, j4⟩ := k4 rfl
      obtain ⟨rfl, j5⟩ := k5 rfl
      refine ⟨by simp [atCnt], wpOp_of _ rfl rfl (op_store rfl rfl (e8 _ _ _ _ _ _) (e6 _ _ _ _ _ _) j5 ?_)⟩
      have ne : ∀ {k : Nat} {c : Array Value}, w.heap[k]? = some (.cells c 24 (0, 0)) → k ≠ nB := fun h e => by subst e; rw [j5] at h; simp at h
      have st : ∀ {k : Nat} {o : Obj}, k ≠ nB → w.heap[k]? = some o → (w.setCell ⟨nB, 0, none⟩ (atFn kB)).heap[k]? = some o := fun h1 h2 => (Below.heap_setCell _ _ _ _ h1).trans h2
      exact ⟨_, _, _, _, _, _, _, _, rfl, g1, g2, fun _ => ⟨rfl, rfl, rfl, rfl⟩, _, _, _, _, _, _, kA, kB, nA, nB, rfl, hb.setCell (p := ⟨nB, 0, none⟩) (k8 rfl) _, k0, k2, fun _ => ⟨rfl, st (ne j1) j1⟩, fun _ => ⟨rfl, st (ne j3) j3⟩, fun _ => ⟨rfl, st (k6 rfl rfl) j4⟩, fun _ => ⟨rfl, one_setCell j5⟩, k6, k7, k8⟩
  · rintro l a w ⟨b0, b1, b2, b3, b4, b5, b6, b7, rfl, g1, g2, g3, xA, yA, xB, yB, pA, pB, kA, kB, nA, nB, rfl, hb, k0, k2, k1, k3, k4, k5, k6, k7, k8⟩ hr
    obtain ⟨rfl, rfl, rfl, rfl, rfl, rfl, rfl, rfl⟩ := at_done pos sA sB dA fA dB fB qA qB b0 b1 b2 b3 b4 b5 b6 b7 hr
    obtain ⟨rfl, j1⟩ := k1 rfl
    obtain ⟨rfl, j3⟩ := k3 rfl
    obtain ⟨rfl, j4⟩ := k4 rfl
    obtain ⟨rfl, j5⟩ := k5 rfl
    obtain rfl := k0 rfl
    obtain rfl := k2 rfl
    exact hQ kA kB nA nB w hb j1 j3 j4 j5
  · refine ⟨false, false, false, false, false, false, false, false, rfl, ?_, ?_, ?_, x1, x2, x3, x4, x5, x6, 0, 0, 0, 0, h0, (Below.refl _ _).drew, ?_, ?_, ?_, ?_, ?_, ?_, ?_, ?_, ?_⟩
    all_goals (intro h; cases h)
  · exact Nat.le_refl 8
end Go.Proofs.YtiniobcknmaigaaGreat
