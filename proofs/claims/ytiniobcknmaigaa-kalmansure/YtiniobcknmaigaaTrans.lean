/-
  The contract of mat.Trans.
-/
import Derived.Test.YtiniobcknmaigaaAt
namespace Go.Proofs.Ytiniobcknmaigaa
open Go.RowKit Go.Sort Qm

/-- filled, by a function that leaves old memory as it was -/
theorem fill_pure (R C : Nat) (hR : R ≤ 8) (hC : C ≤ 8) (F : Nat) (hF : ∀ (args : Array Value) (a : World), Sem.run Try.prog (callFunc F args) a = Result.ok (Next.enter F args) a) (caps : Array Value) (t : Nat → Int) (w : World)
    (hcall : ∀ (i j : Nat) a, i < R → j < C → Below w.heap.size w a → Calls Try.prog F (#[.int .i64 i, .int .i64 j] ++ caps) a (fun e b => e = .returned (.int .i64 (t (i * C + j))) ∧ Below a.heap.size a b)) :
    Calls Try.prog 61 #[.agg #[.int .i64 R, .int .i64 C], .func (.func F) #[] caps] w fun e b => ∃ v, e = .returned (.agg #[.int .i64 R, .int .i64 C, v]) ∧ Sees b v (tab t (R * C)) ∧ New w.heap.size v ∧ Below w.heap.size w b := by
  refine (filled_any R C hR hC F hF caps t none (fun _ a => Below w.heap.size w a) w (fun m e => by cases e) (Below.refl _ _) (fun _ a b h k => h.trans k) ?_).mono ?_
  · intro i j a hi hj hb
    refine (hcall i j a hi hj hb).mono ?_
    rintro e b ⟨rfl, bb⟩
    exact ⟨rfl, bt hb bb, gb_below _ bb⟩
  · rintro e b ⟨v, rfl, hown, hb, _⟩
    exact ⟨v, rfl, Sees.own hown, New.own hown, hb⟩

theorem enters60 : ∀ (args : Array Value) (a : World), Sem.run Try.prog (callFunc 63 args) a = Result.ok (Next.enter 63 args) a := by
  intro args a
  simp [callFunc, Try.func63, go_sem]
  rfl
namespace Qm
/-- a matrix of r rows and c columns, turned -/
def trn (r c : Nat) (xs : List Int) : List Int := tab (fun p => ge xs ((p % r) * c + p / r)) (c * r)
end Qm

theorem trans1_any (i j c : Nat) (P bk : Nat) (xs : List Int) (w : World) (hj : j ≤ 8) (hi : i < c) (hc : c ≤ 8) (hn : xs.length ≤ 64) (hx : j * c + i < xs.length) (h : AtBox w P bk c xs) :
    Calls Try.prog 63 #[.int .i64 i, .int .i64 j, .pointer (some ⟨P, 0, none⟩)] w fun e w' => e = .returned (.int .i64 (ge xs (j * c + i))) ∧ w' = w := by
  have k1 := h.1
  have cA := at_any j i c P bk xs w hj hi hc hn hx h
  obtain ⟨x, hx'⟩ : ∃ x, ge xs (j * c + i) = x := ⟨_, rfl⟩
  rw [hx'] at cA ⊢
  clear hx' h hx
  go_enter Try.func63, Try.ntmps63
  go_wp2_with (go_at_call 83; refine cA.mono ?_; rintro e w' ⟨rfl, rfl⟩)
  go_ret
  exact ⟨rfl, rfl⟩

theorem trans_fill (R C : Nat) (hR : R ≤ 8) (hC : C ≤ 8) (xs : List Int) (hn : xs.length = R * C) (P bk : Nat) (w : World) (hA : AtBox w P bk C xs) :
    Calls Try.prog 61 #[.agg #[.int .i64 C, .int .i64 R], .func (.func 63) #[] #[.pointer (some ⟨P, 0, none⟩)]] w fun e b =>
      ∃ v, e = .returned (.agg #[.int .i64 C, .int .i64 R, v]) ∧ Sees b v (trn R C xs) ∧ New w.heap.size v ∧ Below w.heap.size w b := by
  have h64 : R * C ≤ 64 := mul_le_64 hR hC
  refine fill_pure C R hC hR 63 enters60 #[.pointer (some ⟨P, 0, none⟩)] (fun p => ge xs ((p % R) * C + p / R)) w ?_
  intro i j a hi hj hb
  have e1 : (i * R + j) % R = j := mod_of hj
  have e2 : (i * R + j) / R = i := div_of hj
  simp only [e1, e2]
  refine (trans1_any i j C P bk xs a (by omega) hi hC (by omega) (by rw [hn]; exact at_lt hj hi) (hA.below hb)).mono ?_
  rintro e b ⟨rfl, rfl⟩
  exact ⟨rfl, Below.refl _ _⟩

set_option maxHeartbeats 800000 in
theorem trans_any (R C : Nat) (h1 : 1 ≤ R) (hR : R ≤ 8) (h2 : 1 ≤ C) (hC : C ≤ 8) (v : Value) (xs : List Int) (hn : xs.length = R * C) (w : World) (hs : Sees w v xs) :
    Calls Try.prog 33 #[.agg #[.int .i64 R, .int .i64 C, v]] w fun e b =>
      ∃ v, e = .returned (.agg #[.int .i64 C, .int .i64 R, v]) ∧ Sees b v (trn R C xs) ∧ New w.heap.size v ∧ Below w.heap.size w b := by
  obtain ⟨ao, cap, rfl⟩ := hs.slice
  have hl : laidB R C xs.length = true := laidB_mk h1 hR h2 hC hn
  have hrk := fun P bk w hA => trans_fill R C hR hC xs hn P bk w hA
  clear hn
  go_enter Try.func33, Try.ntmps33
  go_wp2_with (first
    | (go_at_call 57; refine (laid_any _ _ _ _ _ _).mono ?_; rintro e w1 ⟨rfl, b1⟩; have a1 := keep b1 (allocs2 w _ _).1; have r1 := keep b1 (allocs2 w _ _).2; have s1 := hs.below (bt (ball2 w _ _) b1); obtain ⟨c0, c1, c2, _⟩ := mat_cells a1)
    | (go_at_call 60; refine (numbers_any _ _ _ _ _ _).mono ?_; rintro e w2 ⟨rfl, rfl⟩; obtain ⟨d0, d1, d2, _⟩ := mat_cells (heap_old (heap_old a1 (.cells #[.int .i64 R, .int .i64 C, .slice ao xs.length cap] 24)) (.cells #[.func (.func 83) #[] #[.pointer (some ⟨w1.heap.size, 0, none⟩)]] 96)))
    | (go_at_call 58; refine (sizeOf_any _ _ _ _ _ _).mono ?_; rintro e w3 ⟨rfl, b3⟩; have A3 := (atbox_mk s1).below b3)
    | (go_at_call 62; refine (turned_any _ _ _).mono ?_; rintro e w5 ⟨rfl, b5⟩; have A5 := A3.below b5)
    | (go_at_call 61; have r3 := keep b5 (keep b3 (heap_old (heap_old r1 _) _)); refine (hrk _ _ _ A5).mono ?_; rintro e w4 ⟨v4, rfl, s4, n4, b4⟩; obtain ⟨ao4, cap4, rfl⟩ := s4.slice; obtain ⟨f0, f1, f2, g0, g1, g2⟩ := mat_cells (keep b4 r3)))
  refine bodyPost_ret (v := .agg #[.int .i64 C, .int .i64 R, .slice ao4 (trn R C xs).length cap4]) (by simp [results, Try.results33, go_sem, f0, f1, f2]) rfl ?_
  have b5' := bt (bt (bt (bt (ball2 w _ _) b1) (ball2 w1 _ _)) b3) b5
  exact ⟨_, rfl, s4.put n4 (lt_of_block r3) _ _ _, n4.mono b5'.size, below_put (bt b5' b4) (by omega) _ _ _⟩
end Go.Proofs.Ytiniobcknmaigaa
