/-
  The contract of the document's sum of four products (alidaderef04.four).
-/
import Derived.Test.YtgekignonjfaiaaDoorQM
import Derived.Test.YtgekignonjfaiaaDoorRMul
namespace Go.Proofs.YtgekignonjfaiaaDoor
open Go.RowKit Go.Sort Qm

namespace Qm
/-- a product of the document's sum: turned round, if it says so; was a bound met? -/
def ft (a b : Nat → Int) (m : Nat → Bool) (k : Nat) : Int := if m k = true then sub 0 (mul (a k) (b k)) else mul (a k) (b k)
def ftB (a b : Nat → Int) (m : Nat → Bool) (k : Nat) : Bool := if m k = true then mulB (a k) (b k) || subB 0 (mul (a k) (b k)) else mulB (a k) (b k)
/-- the sum of the first k -/
def rsum (t : Nat → Int) : Nat → Int
  | 0 => 0
  | k + 1 => sq (t 0) (fun j => t (j + 1)) k
def rod (t : Nat → Int) (o : Nat → Bool) : Nat → Bool
  | 0 => false
  | k + 1 => anyB o (k + 1) || sqB (t 0) (fun j => t (j + 1)) k
end Qm

/-- four bools in a block -/
def BoxB (w : World) (B : Nat) (m : Nat → Bool) : Prop := ∀ k : Nat, k < 4 → w.cell? ⟨B, k, none⟩ = some (.bool (m k))
theorem BoxB.below {w w' : World} {B : Nat} {m : Nat → Bool} (h : BoxB w B m) (hb : Below w.heap.size w w') : BoxB w' B m := fun k hk => by
  rw [hb.cell (p := ⟨B, k, none⟩) (block_lt_of_cell (h k hk))]; exact h k hk
theorem BoxB.of {w : World} {B : Nat} {m : Nat → Bool} {t : TypeId} (h : w.heap[B]? = some (.cells #[.bool (m 0), .bool (m 1), .bool (m 2), .bool (m 3)] t (0, 0))) : BoxB w B m := by
  obtain ⟨c0, c1, c2, c3, _⟩ := four_cells h
  intro k hk
  have h1 : k = 0 ∨ k = 1 ∨ k = 2 ∨ k = 3 := by omega
  rcases h1 with rfl | rfl | rfl | rfl
  · exact c0
  · exact c1
  · exact c2
  · exact c3
theorem rmul_calm (a b : Int) (w : World) (d : Nat) (os : Array Obj) : Calls Tryd.prog 46 #[.int .i64 a, .int .i64 b] (grow (redrawn w d) os) fun e w'' => e = .returned (.tuple #[.int .i64 (mul a b), .bool (mulB a b)]) ∧ ∃ p : Regrown, w'' = grow (redrawn w p.d) p.os :=
  Calls.regrown_of ((rmul_any a b _).mono fun e w' hh => ⟨hh.1, by rw [hh.2]; exact Below.refl _ _⟩)

/-- one round's numbers -/
theorem rod_step (t : Nat → Int) (o : Nat → Bool) (k : Nat) : rod t o (k + 2) = ((rod t o (k + 1) || o (k + 1)) || addB (rsum t (k + 1)) (t (k + 1))) := by
  simp only [rod, rsum, sqB, anyB]
  cases anyB o k <;> cases o k <;> cases o (k + 1) <;> cases sqB (t 0) (fun j => t (j + 1)) k <;> rfl
theorem rod_next (t : Nat → Int) (o : Nat → Bool) {k : Nat} (h : k ≠ 0) : rod t o (k + 1) = ((rod t o k || o k) || addB (rsum t k) (t k)) := by
  obtain ⟨j, rfl⟩ : ∃ j, k = j + 1 := ⟨k - 1, by omega⟩
  exact rod_step t o j
theorem rsum_next (t : Nat → Int) {k : Nat} (h : k ≠ 0) : rsum t (k + 1) = add (rsum t k) (t k) := by
  obtain ⟨j, rfl⟩ : ∃ j, k = j + 1 := ⟨k - 1, by omega⟩
  rfl
theorem rod_one (t : Nat → Int) (o : Nat → Bool) : rod t o 1 = o 0 := by simp [rod, anyB, sqB]

set_option maxHeartbeats 3000000 in
theorem four_any (a b : Nat → Int) (m : Nat → Bool) (w : World) :
    Calls Tryd.prog 31 #[.agg #[.int .i64 (a 0), .int .i64 (a 1), .int .i64 (a 2), .int .i64 (a 3)], .agg #[.int .i64 (b 0), .int .i64 (b 1), .int .i64 (b 2), .int .i64 (b 3)], .agg #[.bool (m 0), .bool (m 1), .bool (m 2), .bool (m 3)]] w fun e w' =>
      e = .returned (.tuple #[.int .i64 (sm4 (ft a b m)), .bool (anyB (ftB a b m) 4 || sm4B (ft a b m))]) ∧ Below w.heap.size w w' := by
  change Calls Tryd.prog 31 _ w fun e w' => e = .returned (.tuple #[.int .i64 (rsum (ft a b m) 4), .bool (rod (ft a b m) (ftB a b m) 4)]) ∧ Below w.heap.size w w'
  obtain ⟨W, hW⟩ : ∃ W, ((w.alloc (.cells #[.int .i64 (a 0), .int .i64 (a 1), .int .i64 (a 2), .int .i64 (a 3)] 23)).alloc (.cells #[.int .i64 (b 0), .int .i64 (b 1), .int .i64 (b 2), .int .i64 (b 3)] 23)).alloc (.cells #[.bool (m 0), .bool (m 1), .bool (m 2), .bool (m 3)] 50) = W := ⟨_, rfl⟩
  obtain ⟨g1, g2, g3⟩ := allocs3 w (.cells #[.int .i64 (a 0), .int .i64 (a 1), .int .i64 (a 2), .int .i64 (a 3)] 23) (.cells #[.int .i64 (b 0), .int .i64 (b 1), .int .i64 (b 2), .int .i64 (b 3)] 23) (.cells #[.bool (m 0), .bool (m 1), .bool (m 2), .bool (m 3)] 50)
  have bW := ball3 w (.cells #[.int .i64 (a 0), .int .i64 (a 1), .int .i64 (a 2), .int .i64 (a 3)] 23) (.cells #[.int .i64 (b 0), .int .i64 (b 1), .int .i64 (b 2), .int .i64 (b 3)] 23) (.cells #[.bool (m 0), .bool (m 1), .bool (m 2), .bool (m 3)] 50)
  rw [hW] at g1 g2 g3 bW
  have hA := Box4.of g1
  have hB := Box4.of g2
  have hM := BoxB.of g3
  clear g1 g2 g3
  have HW : Hid (_ = W) := hW
  clear hW
  go_enter Tryd.func31, Tryd.ntmps31
  go_wp2
  go_loopw [8, 9, 10] (fun s o i wr => ∃ k : Nat, k ≤ 4 ∧ i = .int .i64 k ∧ s = .int .i64 (rsum (ft a b m) k) ∧ o = .bool (rod (ft a b m) (ftB a b m) k) ∧ Below W.heap.size W wr) (fun _ _ i _ => 4 - (intOf i).toNat)
  case atStart => exact ⟨0, Nat.zero_le _, rfl, rfl, rfl, by rw [← HW.out]; exact Below.refl _ _⟩
  case round =>
    clear HW
    obtain ⟨k, hk, rfl, rfl, rfl, hb⟩ := hrel
    by_cases hlt : k < 4
    · have c1 := cell_regrown (hA.below hb k hlt)
      have c2 := cell_regrown (hB.below hb k hlt)
      have c3 := cell_regrown (hM.below hb k hlt)
      have cM := rmul_calm (a k) (b k) wr
      clear hA hB hM
      have i1 : (k : Int) < 4 := by omega
      have i2 : (0 : Int) ≤ (k : Int) := by omega
      have HT : Hid (ft a b m k = if m k = true then sub 0 (mul (a k) (b k)) else mul (a k) (b k)) := rfl
      have HB : Hid (ftB a b m k = if m k = true then mulB (a k) (b k) || subB 0 (mul (a k) (b k)) else mulB (a k) (b k)) := rfl
      obtain ⟨t, ht⟩ : ∃ t, ft a b m = t := ⟨_, rfl⟩
      obtain ⟨o, ho⟩ : ∃ o, ftB a b m = o := ⟨_, rfl⟩
      rw [ht] at HT ⊢
      rw [ho] at HB ⊢
      clear ht ho
      obtain ⟨x, hx⟩ : ∃ x, a k = x := ⟨_, rfl⟩
      obtain ⟨y, hy⟩ : ∃ y, b k = y := ⟨_, rfl⟩
      rw [hx] at c1 cM HT HB
      rw [hy] at c2 cM HT HB
      clear hx hy
      obtain ⟨M, hM⟩ : ∃ M, mul x y = M := ⟨_, rfl⟩
      obtain ⟨X, hX⟩ : ∃ X, mulB x y = X := ⟨_, rfl⟩
      rw [hM] at cM HT HB
      rw [hX] at cM HB
      clear hM hX
      obtain ⟨S, hS⟩ : ∃ S, rsum t k = S := ⟨_, rfl⟩
      obtain ⟨O, hO⟩ : ∃ O, rod t o k = O := ⟨_, rfl⟩
      have HS : Hid (rsum t k = S) := hS
      have HO : Hid (rod t o k = O) := hO
      rw [hS, hO]
      clear hS hO
      by_cases hk0 : k = 0
      · subst hk0
        obtain rfl : S = 0 := HS.out.symm
        obtain rfl : O = false := HO.out.symm
        cases hm : m 0 <;> rw [hm] at c3 HT HB <;> cases X
        all_goals
          clear hm
          go_wp2
          refine wp_region_quiet_below (by kernel_rfl) (by kernel_rfl) ?_
          repeat (quiet_step (first | exact cM _ _))
          refine wpQuiet_nil ?_
          intro _ hw'
          obtain ⟨⟨dq, osq⟩, hw''⟩ := hw'
          subst hw''
          have bz := bt hb (below_regrown wr dq osq)
          have c3q := c3 dq osq
          obtain ⟨V, hV⟩ : ∃ V, grow (redrawn wr dq) osq = V := ⟨_, rfl⟩
          rw [hV] at bz c3q ⊢
          clear hV c1 c2 c3 cM
          go_wp2_with (go_at_call 39; refine (rsub_any _ _ _).mono ?_; rintro e wy ⟨rfl, rfl⟩)
          go_roundw
          case rel => exact ⟨1, by omega, by go_num, by show _ = Value.int .i64 (t 0); rw [HT.out]; rfl, by show _ = Value.bool (rod t o 1); rw [rod_one, HB.out]; rfl, bz⟩
          case measure => simp [intOf]
      · have hj0 : ((k : Int) == 0) = false := by simp; omega
        have HR := rod_next t o hk0
        have HQ := rsum_next t hk0
        rw [HS.out] at HR HQ
        rw [HO.out] at HR
        rw [HB.out, HT.out] at HR
        rw [HT.out] at HQ
        have HR' : Hid _ := HR
        have HQ' : Hid _ := HQ
        clear HR HQ hk0 HS HO HT HB
        cases hm : m k <;> rw [hm] at c3 HR' HQ' <;> cases X <;> cases O
        all_goals
          clear hm
          go_wp2
          refine wp_region_quiet_below (by kernel_rfl) (by kernel_rfl) ?_
          repeat (quiet_step (first | exact cM _ _))
          refine wpQuiet_nil ?_
          intro _ hw'
          obtain ⟨⟨dq, osq⟩, hw''⟩ := hw'
          subst hw''
          have bz := bt hb (below_regrown wr dq osq)
          have c3q := c3 dq osq
          obtain ⟨V, hV⟩ : ∃ V, grow (redrawn wr dq) osq = V := ⟨_, rfl⟩
          rw [hV] at bz c3q ⊢
          clear hV c1 c2 c3 cM
          cases hsb : subB 0 M
          all_goals
            rw [hsb] at HR'
            go_wp2_with (first | (go_at_call 39; refine (rsub_any _ _ _).mono ?_; rintro e wy ⟨rfl, rfl⟩) | (go_at_call 53; refine (radd_any _ _ _).mono ?_; rintro e wy ⟨rfl, rfl⟩))
            go_roundw
            case rel => exact ⟨k + 1, by omega, by go_num, by rw [HQ'.out]; rfl, by rw [HR'.out]; rfl, bz⟩
            case measure => simp [intOf]; omega
    · have e : k = 4 := by omega
      subst e
      go_wp2
      go_ret2
      exact ⟨rfl, bt bW hb⟩
end Go.Proofs.YtgekignonjfaiaaDoor
