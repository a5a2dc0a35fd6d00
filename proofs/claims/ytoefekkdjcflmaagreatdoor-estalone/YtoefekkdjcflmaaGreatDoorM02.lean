/- Parts of the proof. -/
import Derived.Below
import Derived.Carry
import Derived.ChangeOld
import Derived.LaidMore
import Derived.Lib.Tables
import Derived.OpenShut
import Derived.Stop.Joined
import Derived.Test.YtoefekkdjcflmaaGreatDoorM01
namespace Go.Proofs.YtoefekkdjcflmaaGreatDoor.Qt
open Go.RowKit Go.Sort Go.Proofs.YtoefekkdjcflmaaGreatDoor.Qm Go.Proofs.YtoefekkdjcflmaaGreatDoor.Qt.Qm
namespace Qm
def lessB (k i : Nat) : Bool := (k == 0 && i != 0) || (k == 1 && i == 3) || (k == 2 && i == 1) || (k == 3 && i == 2)
def oth (k i : Nat) : Nat := match k, i with
  | 0, i => i
  | 1, 0 => 1 | 1, 1 => 0 | 1, 2 => 3 | 1, _ => 2
  | 2, 0 => 2 | 2, 1 => 3 | 2, 2 => 0 | 2, _ => 1
  | _, 0 => 3 | _, 1 => 2 | _, 2 => 1 | _, _ => 0
theorem oth_lt {k i : Nat} (hk : k < 4) (hi : i < 4) : oth k i < 4 := by
  have h1 : k = 0 ∨ k = 1 ∨ k = 2 ∨ k = 3 := by omega
  have h2 : i = 0 ∨ i = 1 ∨ i = 2 ∨ i = 3 := by omega
  rcases h1 with rfl | rfl | rfl | rfl <;> rcases h2 with rfl | rfl | rfl | rfl <;> decide
def tp (p q : Nat → Int) (k i : Nat) : Int := mul (p i) (q (oth k i))
def tpB (p q : Nat → Int) (k i : Nat) : Bool := mulB (p i) (q (oth k i))
def tm (p q : Nat → Int) (k i : Nat) : Int := if lessB k i = true then sub 0 (tp p q k i) else tp p q k i
def tmB (p q : Nat → Int) (k i : Nat) : Bool := if lessB k i = true then tpB p q k i || subB 0 (tp p q k i) else tpB p q k i
def qm (p q : Nat → Int) (k : Nat) : Int := sm4 (tm p q k)
def qmB (p q : Nat → Int) (k : Nat) : Bool := anyB (tmB p q k) 4 || sm4B (tm p q k)
end Qm
open Go.Proofs.YtoefekkdjcflmaaGreatDoor.Qt.Qm
def Less (w : World) : Prop := ∀ k i : Nat, k < 4 → i < 4 → w.cell? ⟨0, k * 4 + i, none⟩ = some (.bool (lessB k i))
theorem Less.below {w w' : World} (h : Less w) (hb : Below w.heap.size w w') : Less w' := fun k i hk hi => by
  rw [hb.cell (p := ⟨0, k * 4 + i, none⟩) (block_lt_of_cell (h k i hk hi))]; exact h k i hk hi
def Box4 (w : World) (B : Nat) (p : Nat → Int) : Prop := ∀ k : Nat, k < 4 → w.cell? ⟨B, k, none⟩ = some (.int .i64 (p k))
theorem Box4.below {w w' : World} {B : Nat} {p : Nat → Int} (h : Box4 w B p) (hb : Below w.heap.size w w') : Box4 w' B p := fun k hk => by
  rw [hb.cell (p := ⟨B, k, none⟩) (block_lt_of_cell (h k hk))]; exact h k hk
theorem Box4.of {w : World} {B : Nat} {p : Nat → Int} {t : TypeId} (h : w.heap[B]? = some (.cells #[.int .i64 (p 0), .int .i64 (p 1), .int .i64 (p 2), .int .i64 (p 3)] t (0, 0))) : Box4 w B p := by
  obtain ⟨c0, c1, c2, c3, _⟩ := four_cells h
  intro k hk
  have h1 : k = 0 ∨ k = 1 ∨ k = 2 ∨ k = 3 := by omega
  rcases h1 with rfl | rfl | rfl | rfl
  · exact c0
  · exact c1
  · exact c2
  · exact c3
theorem xor_oth {k i : Nat} (hk : k < 4) (hi : i < 4) : bits .xor .i64 (k : Int) (i : Int) = (oth k i : Int) := by
  have h1 : k = 0 ∨ k = 1 ∨ k = 2 ∨ k = 3 := by omega
  have h2 : i = 0 ∨ i = 1 ∨ i = 2 ∨ i = 3 := by omega
  rcases h1 with rfl | rfl | rfl | rfl <;> rcases h2 with rfl | rfl | rfl | rfl <;> decide
theorem mul_calm (a b : Int) (w : World) (d : Nat) (os : Array Obj) : Calls Tryz.prog 99 #[.int .i64 a, .int .i64 b] (grow (redrawn w d) os) fun e w'' => e = .returned (.tuple #[.int .i64 (mul a b), .bool (mulB a b)]) ∧ ∃ p : Regrown, w'' = grow (redrawn w p.d) p.os :=
  Calls.regrown_of (mul_any a b _)
theorem enters28 : ∀ (args : Array Value) (a : World), Sem.run Tryz.prog (callFunc 102 args) a = Result.ok (Next.enter 102 args) a := by
  intro args a
  simp [callFunc, Tryz.func102, go_sem]
  rfl
theorem enters26 : ∀ (args : Array Value) (a : World), Sem.run Tryz.prog (callFunc 100 args) a = Result.ok (Next.enter 100 args) a := by
  intro args a
  simp [callFunc, Tryz.func100, go_sem]
  rfl
set_option maxHeartbeats 1000000 in
theorem mul11_any (k i : Nat) (hk : k < 4) (hi : i < 4) (P Q L : Nat) (p q : Nat → Int) (w : World) (hP : Box4 w P p) (hQ : Box4 w Q q) (hL : w.cell? ⟨L, 0, none⟩ = some (.int .i64 k)) (hG : Less w) :
    Calls Tryz.prog 102 #[.int .i64 i, .pointer (some ⟨P, 0, none⟩), .pointer (some ⟨Q, 0, none⟩), .pointer (some ⟨L, 0, none⟩)] w fun e w' =>
      e = .returned (.tuple #[.int .i64 (tm p q k i), .bool (tmB p q k i)]) ∧ Below w.heap.size w w' := by
  have hx := xor_oth hk hi
  have hz := oth_lt hk hi
  have c1 := cell_regrown (hP i hi)
  have c2 := cell_regrown (hQ (oth k i) hz)
  have c3 := cell_regrown hL
  have c4 := cell_regrown (hG k i hk hi)
  have cM := mul_calm (p i) (q (oth k i)) w
  unfold tm tmB tp tpB
  obtain ⟨z, hz'⟩ : ∃ z, oth k i = z := ⟨_, rfl⟩
  rw [hz'] at hx hz c2 cM
  simp only [hz']
  obtain ⟨x, hx'⟩ : ∃ x, p i = x := ⟨_, rfl⟩
  obtain ⟨y, hy'⟩ : ∃ y, q z = y := ⟨_, rfl⟩
  rw [hx'] at c1 cM ⊢
  rw [hy'] at c2 cM ⊢
  clear hz' hx' hy' hP hQ hL hG
  have i1 : (i : Int) < 4 := by omega
  have i2 : (0 : Int) ≤ (i : Int) := by omega
  have k1 : (k : Int) < 4 := by omega
  have z1 : (z : Int) < 4 := by omega
  have z2 : (0 : Int) ≤ (z : Int) := by omega
  obtain ⟨M, hM⟩ : ∃ M, mul x y = M := ⟨_, rfl⟩
  obtain ⟨X, hX⟩ : ∃ X, mulB x y = X := ⟨_, rfl⟩
  rw [hM, hX] at cM ⊢
  clear hM hX
  cases hb : lessB k i <;> rw [hb] at c4 <;> cases X
  all_goals
    clear hb
    simp only [if_true, if_false, Bool.false_eq_true]
    go_enter Tryz.func102, Tryz.ntmps102
    go_wp2
    refine wp_region_quiet_below (by kernel_rfl) (by kernel_rfl) ?_
    repeat (quiet_step (first | exact cM _ _))
    refine wpQuiet_nil ?_
    intro _ hw'
    obtain ⟨⟨dq, osq⟩, hw''⟩ := hw'
    subst hw''
    have bz := below_regrown w dq osq
    have c3q := c3 dq osq
    have c4q := c4 dq osq
    obtain ⟨W, hW⟩ : ∃ W, grow (redrawn w dq) osq = W := ⟨_, rfl⟩
    rw [hW] at bz c3q c4q ⊢
    clear hW c1 c2 c3 c4 cM
    go_wp2_with (go_at_call 103; refine (sub_any _ _ _).mono ?_; rintro e wy ⟨rfl, rfl⟩)
    go_ret2
    exact ⟨rfl, bz⟩
end Go.Proofs.YtoefekkdjcflmaaGreatDoor.Qt
namespace Go.Proofs.YtoefekkdjcflmaaGreatDoor.Qt
open Go.ChangeShapes Go.WideShapes Go.ChangeAt Go.RowKit Go.Proofs.YtoefekkdjcflmaaGreatDoor.Qm Go.Proofs.YtoefekkdjcflmaaGreatDoor.Qt.Qm
theorem gLess : Tryz.prog.globalNamed "alidade/quat.less" = some 0 := by kernel_rfl
theorem tLess : (Tryz.prog.globals[0]?).map (·.type) = some 136 := by kernel_rfl
theorem u51 : Tryz.prog.underlying 136 = some (.array 4 135) := by kernel_rfl
theorem u50 : Tryz.prog.underlying 135 = some (.array 4 4) := by kernel_rfl
theorem u4 : Tryz.prog.underlying 4 = some .bool := by kernel_rfl
theorem k50 : Tryz.prog.cellsOf 135 = 4 := by kernel_rfl
theorem k4 : Tryz.prog.cellsOf 4 = 1 := by kernel_rfl
theorem less_of_laid {W : World} (h : laidMetH Tryz.prog [("alidade/quat.less", Rows.laid_alidade_quat_less)] W) : Less W := by
  rw [MakeChecks.laidMetH_plain _ _ _ (by kernel_rfl)] at h
  obtain ⟨ps, ⟨g0, t0, cs0, f0, p0, q0, hg0, ht0, hv0, hd0, _⟩, _⟩ := h
  obtain rfl := Option.some.inj (gLess.symm.trans hg0)
  obtain rfl := Option.some.inj (tLess.symm.trans ht0)
  obtain ⟨xs, m, rfl, hx, hlen, hn, hel⟩ := DataW.trod_array u51 hd0
  intro k i hk hi
  rw [World.var?_cell hg0 hv0 (k * 4 + i)]
  have h1 := hel k hk
  rw [k50, List.getElem?_eq_getElem (by omega)] at h1
  obtain ⟨ys, m', rfl, hy, hlen', hn', hel'⟩ := DataW.trod_array u50 h1
  have h2 := hel' i hi
  rw [k4, List.getElem?_eq_getElem (by omega)] at h2
  obtain ⟨b, e1, e2⟩ := DataW.trod_bool u4 h2
  have hb : b = lessB k i := by
    simp only [Rows.laid_alidade_quat_less, Prod.mk.injEq, DataW.agg.injEq] at hx
    have hx1 : xs[k].1 = ([.agg [.lit (.bool false), .lit (.bool true), .lit (.bool true), .lit (.bool true)], .agg [.lit (.bool false), .lit (.bool false), .lit (.bool false), .lit (.bool true)], .agg [.lit (.bool false), .lit (.bool true), .lit (.bool false), .lit (.bool false)], .agg [.lit (.bool false), .lit (.bool false), .lit (.bool true), .lit (.bool false)]] : List (DataW Unit)).getD k .nil := by
      rw [hx.1]; simp [List.getD, List.getElem?_eq_getElem (show k < xs.length by omega)]
    rw [hy] at hx1
    have hy1 : ys[i].1 = (ys.map (·.1)).getD i .nil := by simp [List.getD, List.getElem?_eq_getElem (show i < ys.length by omega)]
    rw [e2] at hy1
    have c1 : k = 0 ∨ k = 1 ∨ k = 2 ∨ k = 3 := by omega
    have c2 : i = 0 ∨ i = 1 ∨ i = 2 ∨ i = 3 := by omega
    rcases c1 with rfl | rfl | rfl | rfl <;> (simp at hx1; rw [hx1] at hy1; rcases c2 with rfl | rfl | rfl | rfl <;> (simp at hy1; subst hy1; rfl))
  rw [← hb]
  have e3 : cs0.toList[k * 4 + i]? = some (.bool b) := by
    have : ((List.take 4 (List.drop (k * 4) cs0.toList)).drop (i * 1)).take 1 = [.bool b] := e1
    have h0 := congrArg (fun l => l[0]?) this
    simp at h0
    rw [List.getElem?_take, if_pos hi, List.getElem?_drop] at h0
    exact h0
  simpa using e3
theorem door_met (os : Os) (args : Array Value) : laidMetH Tryz.prog [("alidade/quat.less", Rows.laid_alidade_quat_less)] ((World.doorLaid Tryz.prog 18 os).forCall (fun _ _ => 0) ⟨#[], args, []⟩).memory :=
  laidMetH_of_parts3 (fuel := 8) (laidMet_of_run' 8 (by kernel_rfl) (by kernel_rfl)) (by kernel_rfl) (by kernel_rfl)
end Go.Proofs.YtoefekkdjcflmaaGreatDoor.Qt
namespace Go.Proofs.YtoefekkdjcflmaaGreatDoor.Qm
def hk (b : Int) : Nat := if b < 0 then 0 else if 62 < b then 62 else b.toNat
def half (n b : Int) : Int := near (n / 2 ^ hk b) (n % 2 ^ hk b) (2 ^ hk b)
theorem hk_mid {b : Int} (h0 : 0 ≤ b) (h1 : b ≤ 62) : hk b = b.toNat := by unfold hk; rw [if_neg (by omega), if_neg (by omega)]
theorem hk_low {b : Int} (h0 : b < 0) : hk b = 0 := by unfold hk; rw [if_pos h0]
theorem hk_high {b : Int} (h0 : 62 < b) : hk b = 62 := by unfold hk; rw [if_neg (by omega), if_pos h0]
theorem pow_bd (k : Nat) (h : k ≤ 62) : (1 : Int) ≤ 2 ^ k ∧ (2 : Int) ^ k ≤ 4611686018427387904 := by
  have h1 := Nat.pow_le_pow_right (n := 2) (by decide) h
  have h2 := Nat.two_pow_pos k
  have h3 : ((2 ^ k : Nat) : Int) ≤ ((2 ^ 62 : Nat) : Int) := by omega
  have h4 : ((1 : Nat) : Int) ≤ ((2 ^ k : Nat) : Int) := by omega
  exact ⟨by simpa using h4, by simpa using h3⟩
theorem ediv_bd {n d : Int} (hd : 1 ≤ d) (h0 : -9223372036854775808 ≤ n) (h1 : n ≤ 9223372036854775807) : -9223372036854775808 ≤ n / d ∧ n / d ≤ 9223372036854775807 := by
  have e := Int.emod_add_mul_ediv n d
  have m0 := Int.emod_nonneg n (show d ≠ 0 by omega)
  have m1 := Int.emod_lt_of_pos n (show 0 < d by omega)
  constructor
  · by_cases h : n / d < -9223372036854775808
    · have : d * (n / d) ≤ d * (-9223372036854775809) := Int.mul_le_mul_of_nonneg_left (by omega) (by omega)
      omega
    · omega
  · by_cases h : 9223372036854775807 < n / d
    · have : d * 9223372036854775808 ≤ d * (n / d) := Int.mul_le_mul_of_nonneg_left (by omega) (by omega)
      omega
    · omega
theorem half_bd {n : Int} (k : Nat) (h0 : -9223372036854775808 ≤ n) (h1 : n ≤ 9223372036854775807) : near (n / 2 ^ k) (n % 2 ^ k) (2 ^ k) ≤ 9223372036854775807 := by
  cases k with
  | zero =>
    have : near (n / 2 ^ 0) (n % 2 ^ 0) (2 ^ 0) = n := by
      rw [near_stay] <;> simp
    omega
  | succ k =>
    have h := (near_bd (n / 2 ^ (k + 1)) (n % 2 ^ (k + 1)) (2 ^ (k + 1))).2
    have hp : (0 : Int) < 2 ^ k := Int.pow_pos (by omega)
    have e : (2 : Int) ^ (k + 1) = 2 * 2 ^ k := by rw [Int.pow_succ, Int.mul_comm]
    have h2 : n / 2 ^ (k + 1) ≤ 4611686018427387903 := by
      rw [e, ← Int.ediv_ediv_of_nonneg (by omega)]
      have h3 : n / 2 ≤ 4611686018427387903 := by omega
      by_cases hn : 0 ≤ n / 2
      · exact Int.le_trans (Int.ediv_le_self _ hn) h3
      · have : n / 2 / 2 ^ k < 0 := Int.ediv_neg_of_neg_of_pos (by omega) hp
        omega
    omega
end Go.Proofs.YtoefekkdjcflmaaGreatDoor.Qm
namespace Go.Proofs.YtoefekkdjcflmaaGreatDoor
open Go.RowKit Qm
theorem wrapmod (n : Int) (k : Nat) (hk : k ≤ 62) : IntKind.u64.wrap n % 2 ^ k = n % 2 ^ k := by
  rw [IntKind.wrap_u64]
  have e : (18446744073709551616 : Int) = 2 ^ k * 2 ^ (64 - k) := by rw [← Int.pow_add, show k + (64 - k) = 64 by omega]; rfl
  exact Int.emod_emod_of_dvd _ ⟨_, e⟩
theorem wrap_bd (n : Int) : 0 ≤ IntKind.u64.wrap n ∧ IntKind.u64.wrap n ≤ 18446744073709551615 := by rw [IntKind.wrap_u64]; omega
theorem below0_any (x : Int) (w : World) (hx0 : 0 ≤ x) (hx : x ≤ 18446744073709551615) :
    Calls Tryz.prog 147 #[.int .u64 x, .int .i64 0] w fun e w' => e = .returned (.int .u64 0) ∧ w' = w := by
  have h := below_any x 0 w hx0 hx (by omega) (by omega)
  simpa only [Int.toNat_zero, Int.pow_zero, Int.emod_one] using h
theorem below62_any (x : Int) (w : World) (hx0 : 0 ≤ x) (hx : x ≤ 18446744073709551615) :
    Calls Tryz.prog 147 #[.int .u64 x, .int .i64 62] w fun e w' => e = .returned (.int .u64 (x % 4611686018427387904)) ∧ w' = w := below_any x 62 w hx0 hx (by omega) (by omega)
set_option maxHeartbeats 1000000 in
theorem half_mid (n b : Int) (w : World) (n0 : -9223372036854775808 ≤ n) (n1 : n ≤ 9223372036854775807) (h0 : 0 ≤ b) (h1 : b ≤ 62) :
    Calls Tryz.prog 97 #[.int .i64 n, .int .i64 b] w fun e w' => e = .returned (.int .i64 (half n b)) ∧ ∃ m, w' = w.drewN m := by
  obtain ⟨k, rfl⟩ := Int.eq_ofNat_of_zero_le h0
  have hk : k ≤ 62 := by omega
  unfold half
  rw [hk_mid h0 h1, Int.toNat_natCast]
  obtain ⟨p1, p2⟩ := pow_bd k hk
  obtain ⟨d1, d2⟩ := ediv_bd p1 n0 n1
  have m1 := Int.emod_nonneg n (show (2 : Int) ^ k ≠ 0 by omega)
  have m2 := Int.emod_lt_of_pos n (show (0 : Int) < 2 ^ k by omega)
  have hb := half_bd k n0 n1
  have hwm := wrapmod n k hk
  obtain ⟨u1, u2⟩ := wrap_bd n
  obtain ⟨u, hu⟩ : ∃ u, IntKind.u64.wrap n = u := ⟨_, rfl⟩
  rw [hu] at hwm u1 u2
  go_enter Tryz.func97, Tryz.ntmps97
  go_wp2
  go_quiet ((first | (go_at_call 147; exact Calls.quiet_of_same (below_any _ _ _ (by omega) (by omega) (by omega) (by omega))) | (go_at_call 146; exact Calls.quiet_of_same (nearest_any _ _ _ _ (by omega) (by omega) (by omega) (by omega)))))
  go_wp2
  go_ret
  exact ⟨rfl, _, rfl⟩
set_option maxHeartbeats 1000000 in
theorem half_low (n b : Int) (w : World) (n0 : -9223372036854775808 ≤ n) (n1 : n ≤ 9223372036854775807) (h0 : b < 0) :
    Calls Tryz.prog 97 #[.int .i64 n, .int .i64 b] w fun e w' => e = .returned (.int .i64 (half n b)) ∧ ∃ m, w' = w.drewN m := by
  unfold half
  rw [hk_low h0]
  have hb := half_bd 0 n0 n1
  simp only [Int.pow_zero, Int.ediv_one, Int.emod_one] at hb ⊢
  obtain ⟨u1, u2⟩ := wrap_bd n
  obtain ⟨u, hu⟩ : ∃ u, IntKind.u64.wrap n = u := ⟨_, rfl⟩
  rw [hu] at u1 u2
  go_enter Tryz.func97, Tryz.ntmps97
  go_wp2
  go_quiet ((first | (go_at_call 147; exact Calls.quiet_of_same (below0_any _ _ (by omega) (by omega))) | (go_at_call 146; exact Calls.quiet_of_same (nearest_any _ _ _ _ (by omega) (by omega) (by omega) (by omega)))))
  go_wp2
  go_ret
  exact ⟨rfl, _, rfl⟩
set_option maxHeartbeats 1000000 in
theorem half_high (n b : Int) (w : World) (n0 : -9223372036854775808 ≤ n) (n1 : n ≤ 9223372036854775807) (h0 : 62 < b) :
    Calls Tryz.prog 97 #[.int .i64 n, .int .i64 b] w fun e w' => e = .returned (.int .i64 (half n b)) ∧ ∃ m, w' = w.drewN m := by
  unfold half
  rw [hk_high h0]
  have e62 : (2 : Int) ^ 62 = 4611686018427387904 := rfl
  have hb := half_bd 62 n0 n1
  have hwm := wrapmod n 62 (by omega)
  rw [e62] at hb hwm ⊢
  obtain ⟨u1, u2⟩ := wrap_bd n
  obtain ⟨u, hu⟩ : ∃ u, IntKind.u64.wrap n = u := ⟨_, rfl⟩
  rw [hu] at hwm u1 u2
  clear e62
  go_enter Tryz.func97, Tryz.ntmps97
  go_wp2
  go_quiet ((first | (go_at_call 147; exact Calls.quiet_of_same (below62_any _ _ (by omega) (by omega))) | (go_at_call 146; exact Calls.quiet_of_same (nearest_any _ _ _ _ (by omega) (by omega) (by omega) (by omega)))))
  go_wp2
  go_ret
  exact ⟨rfl, _, rfl⟩
theorem half_drew (n b : Int) (w : World) (n0 : -9223372036854775808 ≤ n) (n1 : n ≤ 9223372036854775807) :
    Calls Tryz.prog 97 #[.int .i64 n, .int .i64 b] w fun e w' => e = .returned (.int .i64 (half n b)) ∧ ∃ m, w' = w.drewN m := by
  by_cases h : b < 0
  · exact half_low n b w n0 n1 h
  · by_cases h2 : 62 < b
    · exact half_high n b w n0 n1 h2
    · exact half_mid n b w n0 n1 (by omega) (by omega)
theorem half_any (n b : Int) (w : World) (n0 : -9223372036854775808 ≤ n) (n1 : n ≤ 9223372036854775807) :
    Calls Tryz.prog 97 #[.int .i64 n, .int .i64 b] w fun e w' => e = .returned (.int .i64 (half n b)) ∧ Below w.heap.size w w' := by
  refine (half_drew n b w n0 n1).mono ?_
  rintro e w' ⟨rfl, m, rfl⟩
  exact ⟨rfl, below_drewN (Below.refl _ _) _⟩
namespace Qm
def inB (a : Int) : Bool := !(ob a)
end Qm
set_option maxHeartbeats 400000 in
theorem rin_any (a : Int) (w : World) :
    Calls Tryz.prog 58 #[.int .i64 a] w fun e w' => e = .returned (.bool (inB a)) ∧ w' = w := by
  unfold inB
  by_cases h1 : 70368744177663 < a
  · rw [ob_top h1]
    have h2 : ¬ a ≤ 70368744177663 := by omega
    go_enter Tryz.func58, Tryz.ntmps58
    go_wp2
    all_goals
      go_ret
      exact ⟨by simp, rfl⟩
  · by_cases h2 : a < -70368744177664
    · rw [ob_low h2]
      go_enter Tryz.func58, Tryz.ntmps58
      go_wp2
      all_goals
        go_ret
        exact ⟨by simp, rfl⟩
    · rw [ob_in (by omega) (by omega)]
      go_enter Tryz.func58, Tryz.ntmps58
      go_wp2
      all_goals
        go_ret
        exact ⟨by simp, rfl⟩
end Go.Proofs.YtoefekkdjcflmaaGreatDoor
namespace Go.Proofs.YtoefekkdjcflmaaGreatDoor.Qm
theorem mulV (q v1 v0 : Int) : q * (v1 * 4294967296 + v0) = q * v1 * 4294967296 + q * v0 := by rw [Int.mul_add, Int.mul_assoc]
structure Guess (u v1 v0 c q r : Int) : Prop where
  sum : q * v1 + r = u
  r0 : 0 ≤ r
  r1 : r ≤ 4294967295
  q0 : 0 ≤ q
  q1 : q ≤ 4294967297
  up : u * 4294967296 + c < q * v1 * 4294967296 + q * v0 + v1 * 4294967296 + v0
  a0 : 0 ≤ q * v1
  b0 : 0 ≤ q * v0
structure Fit (u v1 v0 c : Int) : Prop where
  v10 : 2147483648 ≤ v1
  v11 : v1 ≤ 4294967295
  v00 : 0 ≤ v0
  v01 : v0 ≤ 4294967295
  u0 : 0 ≤ u
  u1 : u < v1 * 4294967296 + v0
  c0 : 0 ≤ c
  c1 : c ≤ 4294967295
theorem Guess.init {u v1 v0 c : Int} (f : Fit u v1 v0 c) : Guess u v1 v0 c (u / v1) (u - u / v1 * v1) := by
  obtain ⟨v10, v11, v00, v01, u0, u1, c0, c1⟩ := f
  have hq0 : 0 ≤ u / v1 := Int.ediv_nonneg u0 (by omega)
  have e := Int.emod_add_mul_ediv u v1
  have m0 := Int.emod_nonneg u (show v1 ≠ 0 by omega)
  have m1 := Int.emod_lt_of_pos u (show 0 < v1 by omega)
  rw [Int.mul_comm] at e
  have hb0 : 0 ≤ u / v1 * v0 := Int.mul_nonneg hq0 v00
  have ha0 : 0 ≤ u / v1 * v1 := Int.mul_nonneg hq0 (by omega)
  have hq1 : u / v1 < 4294967298 := Int.ediv_lt_of_lt_mul (by omega) (by omega)
  exact ⟨by omega, by omega, by omega, hq0, by omega, by omega, ha0, hb0⟩
theorem Guess.less {u v1 v0 c q r : Int} (f : Fit u v1 v0 c) (g : Guess u v1 v0 c q r) (h : 4294967296 ≤ q ∨ 4294967296 * r + c < q * v0) :
    1 ≤ q ∧ u * 4294967296 + c < q * v1 * 4294967296 + q * v0 := by
  obtain ⟨v10, v11, v00, v01, u0, u1, c0, c1⟩ := f
  obtain ⟨sum, r0, r1, q0, q1, up, a0, b0⟩ := g
  rcases h with h | h
  · refine ⟨by omega, ?_⟩
    have h1 : 4294967296 * v1 ≤ q * v1 := Int.mul_le_mul_of_nonneg_right h (by omega)
    have h2 : 4294967296 * v0 ≤ q * v0 := Int.mul_le_mul_of_nonneg_right h (by omega)
    omega
  · refine ⟨?_, by omega⟩
    by_cases hq : 0 < q
    · omega
    · have : q = 0 := by omega
      subst this
      rw [Int.zero_mul] at h
      omega
theorem Guess.next {u v1 v0 c q r : Int} (f : Fit u v1 v0 c) (g : Guess u v1 v0 c q r) (h : 4294967296 ≤ q ∨ 4294967296 * r + c < q * v0) (hr : r + v1 < 4294967296) :
    Guess u v1 v0 c (q - 1) (r + v1) := by
  obtain ⟨h1, h2⟩ := g.less f h
  obtain ⟨v10, v11, v00, v01, u0, u1, c0, c1⟩ := f
  obtain ⟨sum, r0, r1, q0, q1, up, a0, b0⟩ := g
  have e1 : (q - 1) * v1 = q * v1 - v1 := by rw [Int.sub_mul, Int.one_mul]
  have e0 : (q - 1) * v0 = q * v0 - v0 := by rw [Int.sub_mul, Int.one_mul]
  have n1 : 0 ≤ (q - 1) * v1 := Int.mul_nonneg (by omega) (by omega)
  have n0 : 0 ≤ (q - 1) * v0 := Int.mul_nonneg (by omega) (by omega)
  exact ⟨by omega, by omega, by omega, by omega, by omega, by omega, n1, n0⟩
def Hit (u v1 v0 c q : Int) : Prop := q = (u * 4294967296 + c) / (v1 * 4294967296 + v0)
theorem hit_of {u v1 v0 c q : Int} (f : Fit u v1 v0 c) (h1 : q * v1 * 4294967296 + q * v0 ≤ u * 4294967296 + c) (h2 : u * 4294967296 + c < q * v1 * 4294967296 + q * v0 + v1 * 4294967296 + v0) : Hit u v1 v0 c q := by
  obtain ⟨v10, v11, v00, v01, u0, u1, c0, c1⟩ := f
  unfold Hit
  symm
  have hV : 0 < v1 * 4294967296 + v0 := by omega
  apply (Int.ediv_eq_iff_of_pos hV).2
  have e := mulV q v1 v0
  constructor
  · omega
  · have e2 : (q + 1) * (v1 * 4294967296 + v0) = q * (v1 * 4294967296 + v0) + (v1 * 4294967296 + v0) := by rw [Int.add_mul, Int.one_mul]
    omega
theorem Guess.broke {u v1 v0 c q r : Int} (f : Fit u v1 v0 c) (g : Guess u v1 v0 c q r) (h : 4294967296 ≤ q ∨ 4294967296 * r + c < q * v0) (hr : ¬ r + v1 < 4294967296) :
    Hit u v1 v0 c (q - 1) := by
  obtain ⟨h1, h2⟩ := g.less f h
  have f' := f
  obtain ⟨v10, v11, v00, v01, u0, u1, c0, c1⟩ := f
  obtain ⟨sum, r0, r1, q0, q1, up, a0, b0⟩ := g
  have e1 : (q - 1) * v1 = q * v1 - v1 := by rw [Int.sub_mul, Int.one_mul]
  have e0 : (q - 1) * v0 = q * v0 - v0 := by rw [Int.sub_mul, Int.one_mul]
  have n0 : (q - 1) * v0 ≤ 4294967296 * 4294967295 := Int.mul_le_mul (by omega) v01 v00 (by omega)
  exact hit_of f' (by omega) (by omega)
theorem Guess.stands {u v1 v0 c q r : Int} (f : Fit u v1 v0 c) (g : Guess u v1 v0 c q r) (h : ¬ 4294967296 * r + c < q * v0) :
    Hit u v1 v0 c q := by
  obtain ⟨sum, r0, r1, q0, q1, up, a0, b0⟩ := g
  exact hit_of f (by omega) (by omega)
theorem Hit.bounds {u v1 v0 c q : Int} (f : Fit u v1 v0 c) (h : Hit u v1 v0 c q) :
    0 ≤ q ∧ q ≤ 4294967295 ∧ u * 4294967296 + c - q * (v1 * 4294967296 + v0) = (u * 4294967296 + c) % (v1 * 4294967296 + v0) ∧
    0 ≤ (u * 4294967296 + c) % (v1 * 4294967296 + v0) ∧ (u * 4294967296 + c) % (v1 * 4294967296 + v0) < v1 * 4294967296 + v0 := by
  obtain ⟨v10, v11, v00, v01, u0, u1, c0, c1⟩ := f
  unfold Hit at h
  have hV : 0 < v1 * 4294967296 + v0 := by omega
  have e := Int.emod_add_mul_ediv (u * 4294967296 + c) (v1 * 4294967296 + v0)
  rw [← h, Int.mul_comm (v1 * 4294967296 + v0) q] at e
  have hq0 : 0 ≤ q := by rw [h]; exact Int.ediv_nonneg (by omega) (by omega)
  have hq1 : q < 4294967296 := by rw [h]; exact Int.ediv_lt_of_lt_mul hV (by omega)
  exact ⟨hq0, by omega, by omega, Int.emod_nonneg _ (by omega), Int.emod_lt_of_pos _ hV⟩
def dq (hi lo y : Int) : Int := (hi * 18446744073709551616 + lo) / y
def dr (hi lo y : Int) : Int := (hi * 18446744073709551616 + lo) % y
theorem div_by {n V q r : Int} (h : n = q * V + r) (h0 : 0 ≤ r) (h1 : r < V) : n / V = q ∧ n % V = r := by
  subst h
  have hV : 0 < V := by omega
  rw [Int.add_comm, Int.add_mul_ediv_right _ _ (by omega), Int.add_mul_emod_self_right, Int.ediv_eq_zero_of_lt h0 h1, Int.emod_eq_of_lt h0 h1]
  omega
theorem two_steps {hi lo y T V U c1 c0 v1 v0 q q0 R1 : Int} (hT : 0 < T) (hV : y * T = V) (hVs : V = v1 * 4294967296 + v0)
    (hX : (hi * 18446744073709551616 + lo) * T = (U * 4294967296 + c1) * 4294967296 + c0)
    (f : Fit U v1 v0 c1) (h : Hit U v1 v0 c1 q) (hR : R1 = (U * 4294967296 + c1) % (v1 * 4294967296 + v0)) (f2 : Fit R1 v1 v0 c0) (h2 : Hit R1 v1 v0 c0 q0) :
    q * 4294967296 + q0 = dq hi lo y ∧ ((R1 * 4294967296 + c0) % (v1 * 4294967296 + v0)) / T = dr hi lo y := by
  obtain ⟨_, _, e1, _, _⟩ := h.bounds f
  obtain ⟨_, _, e2, m0, m1⟩ := h2.bounds f2
  rw [← hVs] at *
  rw [← hR] at e1
  generalize hR2 : (R1 * 4294967296 + c0) % V = R2 at *
  have hq : (hi * 18446744073709551616 + lo) * T = (q * 4294967296 + q0) * V + R2 := by
    have e3 : (q * 4294967296 + q0) * V = q * V * 4294967296 + q0 * V := by rw [Int.add_mul, Int.mul_right_comm]
    omega
  obtain ⟨d1, d2⟩ := div_by hq m0 m1
  rw [← hV, Int.mul_ediv_mul_of_pos_left _ _ hT] at d1
  rw [← hV, Int.mul_comm _ T, Int.mul_comm y T, Int.mul_emod_mul_of_pos _ _ hT] at d2
  refine ⟨d1.symm, ?_⟩
  rw [← d2, Int.mul_comm, Int.mul_ediv_cancel _ (by omega)]
  rfl
end Go.Proofs.YtoefekkdjcflmaaGreatDoor.Qm
namespace Go.Proofs.YtoefekkdjcflmaaGreatDoor
open Go.RowKit Qm
theorem len8_all : ∀ i : Fin 256, 0 ≤ Lib.len8 (i.val : Int) ∧ Lib.len8 (i.val : Int) ≤ 8 ∧ i.val < 2 ^ (Lib.len8 (i.val : Int)).toNat ∧ (1 ≤ i.val → 1 ≤ Lib.len8 (i.val : Int) ∧ 2 ^ ((Lib.len8 (i.val : Int)).toNat - 1) ≤ i.val) := by decide +kernel
theorem len_of (S : Nat) (x i : Int) (_hx : 0 ≤ x) (hi : i = x / 2 ^ S) (h1 : 1 ≤ i) (h2 : i ≤ 255) :
    0 ≤ Lib.len8 i ∧ Lib.len8 i ≤ 8 ∧ 1 ≤ Lib.len8 i ∧ 2 ^ (S + (Lib.len8 i).toNat - 1) ≤ x ∧ x < 2 ^ (S + (Lib.len8 i).toNat) := by
  obtain ⟨a, b, c, d⟩ := len8_all ⟨i.toNat, by omega⟩
  have ei : ((i.toNat : Nat) : Int) = i := by omega
  simp only [ei] at a b c d
  obtain ⟨d1, d2⟩ := d (by omega)
  refine ⟨a, b, d1, ?_, ?_⟩
  · have e : S + (Lib.len8 i).toNat - 1 = S + ((Lib.len8 i).toNat - 1) := by omega
    rw [e, Int.pow_add]
    have p : (0 : Int) < 2 ^ S := Int.pow_pos (by omega)
    have h3 : (2 : Int) ^ ((Lib.len8 i).toNat - 1) ≤ i := by
      have : ((2 ^ ((Lib.len8 i).toNat - 1) : Nat) : Int) ≤ ((i.toNat : Nat) : Int) := by omega
      rw [ei] at this
      simpa using this
    have h4 : 2 ^ S * (2 : Int) ^ ((Lib.len8 i).toNat - 1) ≤ 2 ^ S * i := Int.mul_le_mul_of_nonneg_left h3 (by omega)
    have h5 : 2 ^ S * i ≤ x := by rw [hi]; exact Int.mul_ediv_self_le (by omega)
    omega
  · rw [Int.pow_add]
    have p : (0 : Int) < 2 ^ S := Int.pow_pos (by omega)
    have h3 : i + 1 ≤ (2 : Int) ^ (Lib.len8 i).toNat := by
      have : ((i.toNat : Nat) : Int) + 1 ≤ ((2 ^ (Lib.len8 i).toNat : Nat) : Int) := by omega
      rw [ei] at this
      simpa using this
    have h4 : 2 ^ S * (i + 1) ≤ 2 ^ S * (2 : Int) ^ (Lib.len8 i).toNat := Int.mul_le_mul_of_nonneg_left h3 (by omega)
    have h5 : x < 2 ^ S * (i + 1) := by
      rw [hi]
      have e := Int.emod_add_mul_ediv x (2 ^ S)
      have m := Int.emod_lt_of_pos x p
      rw [Int.mul_add, Int.mul_one]
      omega
    omega
def IsLen (x k : Int) : Prop := 1 ≤ k ∧ k ≤ 64 ∧ 2 ^ (k.toNat - 1) ≤ x ∧ x < 2 ^ k.toNat
theorem isLen_of (S : Nat) (x i : Int) (hS : S ≤ 56) (hx : 0 ≤ x) (hi : i = x / 2 ^ S) (h1 : 1 ≤ i) (h2 : i ≤ 255) : IsLen x (S + Lib.len8 i) := by
  obtain ⟨a, b, c, d, e⟩ := len_of S x i hx hi h1 h2
  have e1 : ((S : Int) + Lib.len8 i).toNat = S + (Lib.len8 i).toNat := by omega
  unfold IsLen
  rw [e1]
  exact ⟨by omega, by omega, d, e⟩
set_option maxHeartbeats 4000000 in
theorem len64_any (x : Int) (w : World) (h0 : 1 ≤ x) (h1 : x ≤ 18446744073709551615) :
    Calls Tryz.prog 192 #[.int .u64 x] w fun e w' => ∃ k, IsLen x k ∧ e = .returned (.int .i64 k) ∧ w' = w := by
  by_cases t1 : 4294967296 ≤ x
  · by_cases t2 : 65536 ≤ x / 4294967296
    · by_cases t3 : 256 ≤ x / 4294967296 / 65536
      · have c0 : 0 ≤ x / 4294967296 / 65536 / 256 := by omega
        have c1 : x / 4294967296 / 65536 / 256 ≤ 255 := by omega
        have hk : IsLen x (56 + Lib.len8 (x / 4294967296 / 65536 / 256)) := isLen_of 56 x (x / 4294967296 / 65536 / 256) (by omega) (by omega) (by omega) (by omega) c1
        obtain ⟨l0, l1, -, -, -⟩ := len_of 56 x (x / 4294967296 / 65536 / 256) (by omega) (by omega) (by omega) c1
        have K : Hid (IsLen x (56 + Lib.len8 (x / 4294967296 / 65536 / 256))) := hk
        clear hk
        go_enter Tryz.func192, Tryz.ntmps192
        go_wp2
        go_ret
        exact ⟨_, K.out, rfl, rfl⟩
      · have c0 : 0 ≤ x / 4294967296 / 65536 := by omega
        have c1 : x / 4294967296 / 65536 ≤ 255 := by omega
        have hk : IsLen x (48 + Lib.len8 (x / 4294967296 / 65536)) := isLen_of 48 x (x / 4294967296 / 65536) (by omega) (by omega) (by omega) (by omega) c1
        obtain ⟨l0, l1, -, -, -⟩ := len_of 48 x (x / 4294967296 / 65536) (by omega) (by omega) (by omega) c1
        have K : Hid (IsLen x (48 + Lib.len8 (x / 4294967296 / 65536))) := hk
        clear hk
        go_enter Tryz.func192, Tryz.ntmps192
        go_wp2
        go_ret
        exact ⟨_, K.out, rfl, rfl⟩
    · by_cases t3 : 256 ≤ x / 4294967296
      · have c0 : 0 ≤ x / 4294967296 / 256 := by omega
        have c1 : x / 4294967296 / 256 ≤ 255 := by omega
        have hk : IsLen x (40 + Lib.len8 (x / 4294967296 / 256)) := isLen_of 40 x (x / 4294967296 / 256) (by omega) (by omega) (by omega) (by omega) c1
        obtain ⟨l0, l1, -, -, -⟩ := len_of 40 x (x / 4294967296 / 256) (by omega) (by omega) (by omega) c1
        have K : Hid (IsLen x (40 + Lib.len8 (x / 4294967296 / 256))) := hk
        clear hk
        go_enter Tryz.func192, Tryz.ntmps192
        go_wp2
        go_ret
        exact ⟨_, K.out, rfl, rfl⟩
      · have c0 : 0 ≤ x / 4294967296 := by omega
        have c1 : x / 4294967296 ≤ 255 := by omega
        have hk : IsLen x (32 + Lib.len8 (x / 4294967296)) := isLen_of 32 x (x / 4294967296) (by omega) (by omega) (by omega) (by omega) c1
        obtain ⟨l0, l1, -, -, -⟩ := len_of 32 x (x / 4294967296) (by omega) (by omega) (by omega) c1
        have K : Hid (IsLen x (32 + Lib.len8 (x / 4294967296))) := hk
        clear hk
        go_enter Tryz.func192, Tryz.ntmps192
        go_wp2
        go_ret
        exact ⟨_, K.out, rfl, rfl⟩
  · by_cases t2 : 65536 ≤ x
    · by_cases t3 : 256 ≤ x / 65536
      · have c0 : 0 ≤ x / 65536 / 256 := by omega
        have c1 : x / 65536 / 256 ≤ 255 := by omega
        have hk : IsLen x (24 + Lib.len8 (x / 65536 / 256)) := isLen_of 24 x (x / 65536 / 256) (by omega) (by omega) (by omega) (by omega) c1
        obtain ⟨l0, l1, -, -, -⟩ := len_of 24 x (x / 65536 / 256) (by omega) (by omega) (by omega) c1
        have K : Hid (IsLen x (24 + Lib.len8 (x / 65536 / 256))) := hk
        clear hk
        go_enter Tryz.func192, Tryz.ntmps192
        go_wp2
        go_ret
        exact ⟨_, K.out, rfl, rfl⟩
      · have c0 : 0 ≤ x / 65536 := by omega
        have c1 : x / 65536 ≤ 255 := by omega
        have hk : IsLen x (16 + Lib.len8 (x / 65536)) := isLen_of 16 x (x / 65536) (by omega) (by omega) (by omega) (by omega) c1
        obtain ⟨l0, l1, -, -, -⟩ := len_of 16 x (x / 65536) (by omega) (by omega) (by omega) c1
        have K : Hid (IsLen x (16 + Lib.len8 (x / 65536))) := hk
        clear hk
        go_enter Tryz.func192, Tryz.ntmps192
        go_wp2
        go_ret
        exact ⟨_, K.out, rfl, rfl⟩
    · by_cases t3 : 256 ≤ x
      · have c0 : 0 ≤ x / 256 := by omega
        have c1 : x / 256 ≤ 255 := by omega
        have hk : IsLen x (8 + Lib.len8 (x / 256)) := isLen_of 8 x (x / 256) (by omega) (by omega) (by omega) (by omega) c1
        obtain ⟨l0, l1, -, -, -⟩ := len_of 8 x (x / 256) (by omega) (by omega) (by omega) c1
        have K : Hid (IsLen x (8 + Lib.len8 (x / 256))) := hk
        clear hk
        go_enter Tryz.func192, Tryz.ntmps192
        go_wp2
        go_ret
        exact ⟨_, K.out, rfl, rfl⟩
      · have c0 : 0 ≤ x := by omega
        have c1 : x ≤ 255 := by omega
        have hk : IsLen x (0 + Lib.len8 (x)) := isLen_of 0 x (x) (by omega) (by omega) (by omega) (by omega) c1
        obtain ⟨l0, l1, -, -, -⟩ := len_of 0 x (x) (by omega) (by omega) (by omega) c1
        have K : Hid (IsLen x (0 + Lib.len8 (x))) := hk
        clear hk
        go_enter Tryz.func192, Tryz.ntmps192
        go_wp2
        go_ret
        exact ⟨_, K.out, by simp, rfl⟩
set_option maxHeartbeats 400000 in
theorem lz64_any (x : Int) (w : World) (h0 : 1 ≤ x) (h1 : x ≤ 18446744073709551615) :
    Calls Tryz.prog 177 #[.int .u64 x] w fun e w' => ∃ k : Nat, k ≤ 63 ∧ 9223372036854775808 ≤ x * 2 ^ k ∧ x * 2 ^ k ≤ 18446744073709551615 ∧ e = .returned (.int .i64 (k : Int)) ∧ w' = w := by
  go_enter Tryz.func177, Tryz.ntmps177
  go_wp2_with (go_at_call 192; refine (len64_any _ _ (by omega) (by omega)).mono ?_; rintro e w' ⟨k, ⟨k1, k2, k3, k4⟩, rfl, rfl⟩)
  go_ret
  refine ⟨64 - k.toNat, by omega, ?_, ?_, ?_, rfl⟩
  · have e : (9223372036854775808 : Int) = 2 ^ (k.toNat - 1) * 2 ^ (64 - k.toNat) := by
      rw [← Int.pow_add, show k.toNat - 1 + (64 - k.toNat) = 63 by omega]; rfl
    rw [e]
    exact Int.mul_le_mul_of_nonneg_right k3 (Int.pow_nonneg (by omega))
  · have e : (18446744073709551616 : Int) = 2 ^ k.toNat * 2 ^ (64 - k.toNat) := by
      rw [← Int.pow_add, show k.toNat + (64 - k.toNat) = 64 by omega]; rfl
    have h : x * 2 ^ (64 - k.toNat) < 2 ^ k.toNat * 2 ^ (64 - k.toNat) := Int.mul_lt_mul_of_pos_right k4 (Int.pow_pos (by omega))
    omega
  · have e : (((64 - k.toNat : Nat)) : Int) = 64 - k := by omega
    rw [e]
    rfl
end Go.Proofs.YtoefekkdjcflmaaGreatDoor

