/-
  The contracts of quat.Small and quat.Turn.
-/
import Derived.Test.YtgekignonjfaiaaDoorQU
namespace Go.Proofs.YtgekignonjfaiaaDoor
open Go.RowKit Go.Sort Qm

namespace Qm
/-- three numbers behind a first one -/
def vq (x : Int) (v : Nat → Int) (k : Nat) : Int := if k = 0 then x else v (k - 1)
/-- a small turn, ahead of its norm: 1, and each one times half; was a bound met? -/
def sl (v : Nat → Int) (h : Int) : Nat → Int := vq 16777216 (fun k => mul (v k) h)
def slB (v : Nat → Int) (h : Int) (k : Nat) : Bool := if k = 0 then false else mulB (v (k - 1)) h
/-- three numbers turned -/
def tn (q v : Nat → Int) (k : Nat) : Int := qm (qm q (vq 0 v)) (cj q) k
def tnB (q v : Nat → Int) : Bool := anyB (qmB q (vq 0 v)) 4 || anyB (cjB q) 4 || anyB (qmB (qm q (vq 0 v)) (cj q)) 4
end Qm

/-- three numbers in a block -/
def Box3 (w : World) (B : Nat) (v : Nat → Int) : Prop := ∀ k : Nat, k < 3 → w.cell? ⟨B, k, none⟩ = some (.int .i64 (v k))
theorem Box3.below {w w' : World} {B : Nat} {v : Nat → Int} (h : Box3 w B v) (hb : Below w.heap.size w w') : Box3 w' B v := fun k hk => by
  rw [hb.cell (p := ⟨B, k, none⟩) (block_lt_of_cell (h k hk))]; exact h k hk
theorem three_cells {w : World} {b : Nat} {x y z : Value} {t : TypeId} (h : w.heap[b]? = some (.cells #[x, y, z] t (0, 0))) :
    w.cell? ⟨b, 0, none⟩ = some x ∧ w.cell? ⟨b, 1, none⟩ = some y ∧ w.cell? ⟨b, 2, none⟩ = some z ∧ w.frozen? ⟨b, 0, none⟩ = false ∧ w.frozen? ⟨b, 1, none⟩ = false ∧ w.frozen? ⟨b, 2, none⟩ = false := by
  simp [World.cell?, World.frozen?, h]
theorem Box3.of {w : World} {B : Nat} {v : Nat → Int} {t : TypeId} (h : w.heap[B]? = some (.cells #[.int .i64 (v 0), .int .i64 (v 1), .int .i64 (v 2)] t (0, 0))) : Box3 w B v := by
  obtain ⟨c0, c1, c2, _⟩ := three_cells h
  intro k hk
  have h1 : k = 0 ∨ k = 1 ∨ k = 2 := by omega
  rcases h1 with rfl | rfl | rfl
  · exact c0
  · exact c1
  · exact c2
theorem enters44 : ∀ (args : Array Value) (a : World), Sem.run Tryd.prog (callFunc 44 args) a = Result.ok (Next.enter 44 args) a := by
  intro args a; simp [callFunc, Tryd.func44, go_sem]; rfl

set_option maxHeartbeats 1000000 in
theorem small1_any (k : Nat) (hk : k < 4) (P L : Nat) (v : Nat → Int) (h : Int) (w : World) (hP : Box3 w P v) (hL : w.cell? ⟨L, 0, none⟩ = some (.int .i64 h)) :
    Calls Tryd.prog 44 #[.int .i64 k, .pointer (some ⟨P, 0, none⟩), .pointer (some ⟨L, 0, none⟩)] w fun e w' => e = .returned (.tuple #[.int .i64 (sl v h k), .bool (slB v h k)]) ∧ Below w.heap.size w w' := by
  unfold sl slB vq
  by_cases h0 : k = 0
  · subst h0
    clear hP hL
    simp only [if_true]
    go_enter Tryd.func44, Tryd.ntmps44
    go_wp2
    go_ret2
    exact ⟨rfl, Below.refl _ _⟩
  · rw [if_neg h0, if_neg h0]
    have c1 := cell_regrown (hP (k - 1) (by omega))
    have c2 := cell_regrown hL
    have cM := mul_calm (v (k - 1)) h w
    obtain ⟨x, hx'⟩ : ∃ x, v (k - 1) = x := ⟨_, rfl⟩
    rw [hx'] at c1 cM
    simp only [hx']
    clear hx' hP hL
    have h1 : k = 1 ∨ k = 2 ∨ k = 3 := by omega
    have e0 : IntKind.i64.wrap 0 = 0 := by decide
    have e1 : IntKind.i64.wrap 1 = 1 := by decide
    have e2 : IntKind.i64.wrap 2 = 2 := by decide
    rcases h1 with rfl | rfl | rfl
    all_goals
      clear h0 hk
      simp only [Nat.reduceSub] at c1
      go_enter Tryd.func44, Tryd.ntmps44
      go_wp2
      refine wp_region_quiet_below (by kernel_rfl) (by kernel_rfl) ?_
      repeat (quiet_step (first | exact cM _ _))
      refine wpQuiet_nil ?_
      intro _ hw'
      obtain ⟨⟨dq, osq⟩, hw''⟩ := hw'
      subst hw''
      go_wp2
      go_ret2
      exact ⟨rfl, below_regrown w dq osq⟩

set_option maxHeartbeats 1000000 in
theorem small_any (v : Nat → Int) (b : Int) (w : World) (b0 : -9223372036854775808 ≤ b) (b1 : b ≤ 9223372036854775807) :
    Calls Tryd.prog 23 #[.agg #[.int .i64 (v 0), .int .i64 (v 1), .int .i64 (v 2)], .int .i64 b] w fun e w' => e = .returned (.tuple #[.agg #[.int .i64 (un (sl v (half b 1)) 0), .int .i64 (un (sl v (half b 1)) 1), .int .i64 (un (sl v (half b 1)) 2), .int .i64 (un (sl v (half b 1)) 3)], .bool (anyB (slB v (half b 1)) 4 || unB (sl v (half b 1)))]) ∧ Below w.heap.size w w' := by
  obtain ⟨W, hW⟩ : ∃ W, (w.alloc (.cells #[.int .i64 (v 0), .int .i64 (v 1), .int .i64 (v 2)] 35)).alloc (.cells #[.int .i64 0, .int .i64 0, .int .i64 0, .int .i64 0] 24) = W := ⟨_, rfl⟩
  obtain ⟨g1, g2⟩ := allocs2 w (.cells #[.int .i64 (v 0), .int .i64 (v 1), .int .i64 (v 2)] 35) (.cells #[.int .i64 0, .int .i64 0, .int .i64 0, .int .i64 0] 24)
  have bW := ball2 w (.cells #[.int .i64 (v 0), .int .i64 (v 1), .int .i64 (v 2)] 35) (.cells #[.int .i64 0, .int .i64 0, .int .i64 0, .int .i64 0] 24)
  rw [hW] at g1 g2 bW
  have hh := half_any b 1 W b0 b1
  rw [← hW] at hh
  have HW : Hid (_ = W) := hW
  clear hW
  obtain ⟨h, hh'⟩ : ∃ h, half b 1 = h := ⟨_, rfl⟩
  rw [hh'] at hh
  simp only [hh']
  clear hh'
  have ht : ∀ wx, Below W.heap.size W wx → Calls Tryd.prog 25 #[.func (.func 44) #[] #[.pointer (some ⟨w.heap.size, 0, none⟩), .pointer (some ⟨wx.heap.size, 0, none⟩)]] (wx.alloc (.cells #[.int .i64 h] 22)) fun e b =>
      e = .returned (.tuple #[.agg #[.int .i64 (sl v h 0), .int .i64 (sl v h 1), .int .i64 (sl v h 2), .int .i64 (sl v h 3)], .bool (anyB (slB v h) 4)]) ∧ Below (wx.alloc (.cells #[.int .i64 h] 22)).heap.size (wx.alloc (.cells #[.int .i64 h] 22)) b := by
    intro wx bx
    refine told_any 44 enters44 #[.pointer (some ⟨w.heap.size, 0, none⟩), .pointer (some ⟨wx.heap.size, 0, none⟩)] (sl v h) (slB v h) (wx.alloc (.cells #[.int .i64 h] 22)) ?_
    intro k a hk hb
    exact small1_any k hk w.heap.size wx.heap.size v h a ((Box3.of g1).below (bt (bt bx (ball1 _ _)) hb)) (cell_of_one (keep hb (heap_new _ _)))
  have hu := unit_any (sl v h)
  obtain ⟨X, hX⟩ : ∃ X, anyB (slB v h) 4 = X := ⟨_, rfl⟩
  obtain ⟨Y, hY⟩ : ∃ Y, unB (sl v h) = Y := ⟨_, rfl⟩
  obtain ⟨z0, hz0⟩ : ∃ z, un (sl v h) 0 = z := ⟨_, rfl⟩
  obtain ⟨z1, hz1⟩ : ∃ z, un (sl v h) 1 = z := ⟨_, rfl⟩
  obtain ⟨z2, hz2⟩ : ∃ z, un (sl v h) 2 = z := ⟨_, rfl⟩
  obtain ⟨z3, hz3⟩ : ∃ z, un (sl v h) 3 = z := ⟨_, rfl⟩
  obtain ⟨s0, hs0⟩ : ∃ z, sl v h 0 = z := ⟨_, rfl⟩
  obtain ⟨s1, hs1⟩ : ∃ z, sl v h 1 = z := ⟨_, rfl⟩
  obtain ⟨s2, hs2⟩ : ∃ z, sl v h 2 = z := ⟨_, rfl⟩
  obtain ⟨s3, hs3⟩ : ∃ z, sl v h 3 = z := ⟨_, rfl⟩
  simp only [hX, hs0, hs1, hs2, hs3] at ht
  simp only [hY, hz0, hz1, hz2, hz3, hs0, hs1, hs2, hs3] at hu
  simp only [hX, hY, hz0, hz1, hz2, hz3]
  clear hX hY hz0 hz1 hz2 hz3 hs0 hs1 hs2 hs3 g1
  cases X
  all_goals
    go_enter Tryd.func23, Tryd.ntmps23
    go_wp2_with (first | (go_at_call 43; refine hh.mono ?_; rintro e wx ⟨rfl, bx⟩; rw [HW.out] at bx) | (go_at_call 25; refine (ht _ bx).mono ?_; rintro e wz ⟨rfl, bz⟩; have bq := bt (bt bx (ball1 _ _)) bz; have bq2 := bq.alloc bq.size (.cells #[.int .i64 s0, .int .i64 s1, .int .i64 s2, .int .i64 s3] 23)) | (go_at_call 15; refine (hu _).mono ?_; rintro e wy ⟨rfl, by'⟩; obtain ⟨d0, d1, d2, d3, f0, f1, f2, f3⟩ := four_cells (heap_old (keep (bt bq2 by') g2) (.cells #[.int .i64 z0, .int .i64 z1, .int .i64 z2, .int .i64 z3] 24))))
    refine bodyPost_ret (v := .tuple #[.agg #[.int .i64 z0, .int .i64 z1, .int .i64 z2, .int .i64 z3], .bool _]) (by simp [results, Tryd.results23, go_sem, d0, d1, d2, d3]; rfl) rfl ?_
    have b9 := bt bW (bt bq2 by')
    exact ⟨rfl, put4 (b9.alloc b9.size _) (by omega) _ _ _ _⟩
end Go.Proofs.YtgekignonjfaiaaDoor
