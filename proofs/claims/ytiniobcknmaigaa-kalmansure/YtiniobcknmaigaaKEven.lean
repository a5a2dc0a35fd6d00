/-
  The code's Even, once more: what it makes is its caller's own, to be written into.
-/
import Derived.Test.YtiniobcknmaigaaEven
namespace Go.Proofs.Ytiniobcknmaigaa
open Go.RowKit Go.Sort Qm

theorem fill_own (R C : Nat) (hR : R ≤ 8) (hC : C ≤ 8) (F : Nat) (hF : ∀ (args : Array Value) (a : World), Sem.run Try.prog (callFunc F args) a = Result.ok (Next.enter F args) a) (caps : Array Value) (t : Nat → Int) (w : World)
    (hcall : ∀ (i j : Nat) a, i < R → j < C → Below w.heap.size w a → Calls Try.prog F (#[.int .i64 i, .int .i64 j] ++ caps) a (fun e b => e = .returned (.int .i64 (t (i * C + j))) ∧ Below a.heap.size a b)) :
    Calls Try.prog 61 #[.agg #[.int .i64 R, .int .i64 C], .func (.func F) #[] caps] w fun e b => ∃ v, e = .returned (.agg #[.int .i64 R, .int .i64 C, v]) ∧ b.ownsRow w.heap.size 41 1 v (R * C) ((tab t (R * C)).map (Value.int .i64)) ∧ Below w.heap.size w b := by
  refine (filled_any R C hR hC F hF caps t none (fun _ a => Below w.heap.size w a) w (fun m e => by cases e) (Below.refl _ _) (fun _ a b h k => h.trans k) ?_).mono ?_
  · intro i j a hi hj hb
    refine (hcall i j a hi hj hb).mono ?_
    rintro e b ⟨rfl, bb⟩
    exact ⟨rfl, bt hb bb, gb_below _ bb⟩
  · rintro e b ⟨v, rfl, hown, hb, _⟩
    exact ⟨v, rfl, hown, hb⟩

theorem even_fill_own (C : Nat) (hC : C ≤ 8) (xs : List Int) (hn : xs.length = C * C) (ha : AllIn xs) (P bk : Nat) (w : World) (hA : AtBox w P bk C xs) :
    Calls Try.prog 61 #[.agg #[.int .i64 C, .int .i64 C], .func (.func 65) #[] #[.pointer (some ⟨P, 0, none⟩)]] w fun e b =>
      ∃ v, e = .returned (.agg #[.int .i64 C, .int .i64 C, v]) ∧ b.ownsRow w.heap.size 41 1 v (C * C) ((evn C xs).map (Value.int .i64)) ∧ Below w.heap.size w b := by
  refine fill_own C C hC hC 65 enters57 #[.pointer (some ⟨P, 0, none⟩)] (fun p => half (ge xs p + ge xs ((p % C) * C + p / C)) 1) w ?_
  intro i j a hi hj hb
  have e1 : (i * C + j) % C = j := mod_of hj
  have e2 : (i * C + j) / C = i := div_of hj
  simp only [e1, e2]
  exact even1_any i j C P bk xs a hi hj hC hn ha (hA.below hb)


set_option maxHeartbeats 800000 in
theorem even_own (C : Nat) (h1 : 1 ≤ C) (hC : C ≤ 8) (v : Value) (xs : List Int) (hn : xs.length = C * C) (ha : AllIn xs) (w : World) (hs : Sees w v xs) :
    Calls Try.prog 37 #[.agg #[.int .i64 C, .int .i64 C, v]] w fun e b =>
      ∃ v, e = .returned (.tuple #[.agg #[.int .i64 C, .int .i64 C, v], .bool false, .int .i64 0]) ∧ b.ownsRow w.heap.size 41 1 v (C * C) ((evn C xs).map (Value.int .i64)) ∧ Below w.heap.size w b := by
  obtain ⟨ao, cap, rfl⟩ := hs.slice
  have hl : laidB C C xs.length = true := laidB_mk h1 hC h1 hC hn
  have hrk := fun P bk w hA => even_fill_own C hC xs hn ha P bk w hA
  clear hn ha
  go_enter Try.func37, Try.ntmps37
  go_wp2
  obtain ⟨x1, x2⟩ := allocs2 w (.cells #[.int .i64 C, .int .i64 C, .slice ao xs.length cap] 24) (.cells #[.int .i64 0, .int .i64 0, .slice none 0 0] 24)
  obtain ⟨k0, k1, k2, _⟩ := mat_cells x1
  have m0 := cell_regrown k0
  have m1 := cell_regrown k1
  have m2 := cell_regrown k2
  refine wp_region_quiet_below (by kernel_rfl) (by kernel_rfl) ?_
  repeat (quiet_step (first | exact sizeOf_calm _ _ _ _ _ _ _ _ | exact turned_calm _ _ _ _ _))
  refine wpQuiet_nil ?_
  intro _ hw'
  obtain ⟨⟨dq, osq⟩, hw''⟩ := hw'
  subst hw''
  have b0 := bt (ball2 w (.cells #[.int .i64 C, .int .i64 C, .slice ao xs.length cap] 24) (.cells #[.int .i64 0, .int .i64 0, .slice none 0 0] 24)) (below_regrown ((w.alloc (.cells #[.int .i64 C, .int .i64 C, .slice ao xs.length cap] 24)).alloc (.cells #[.int .i64 0, .int .i64 0, .slice none 0 0] 24)) dq osq)
  have y1 := keep (below_regrown ((w.alloc (.cells #[.int .i64 C, .int .i64 C, .slice ao xs.length cap] 24)).alloc (.cells #[.int .i64 0, .int .i64 0, .slice none 0 0] 24)) dq osq) x1
  have y2 := keep (below_regrown ((w.alloc (.cells #[.int .i64 C, .int .i64 C, .slice ao xs.length cap] 24)).alloc (.cells #[.int .i64 0, .int .i64 0, .slice none 0 0] 24)) dq osq) x2
  obtain ⟨W, hW⟩ : ∃ W, grow (redrawn ((w.alloc (.cells #[.int .i64 C, .int .i64 C, .slice ao xs.length cap] 24)).alloc (.cells #[.int .i64 0, .int .i64 0, .slice none 0 0] 24)) dq) osq = W := ⟨_, rfl⟩
  rw [hW] at b0 y1 y2 ⊢
  clear hW m0 m1 m2 k0 k1 k2 x1 x2
  obtain ⟨k0, k1, k2, _⟩ := mat_cells y1
  go_wp2_with (first
    | (go_at_call 57; refine (laid_any _ _ _ _ _ _).mono ?_; rintro e w1 ⟨rfl, b1⟩; have a1 := keep b1 y1; have r1 := keep b1 y2; have s1 := hs.below (bt b0 b1); obtain ⟨c0, c1, c2, _⟩ := mat_cells a1)
    | (go_at_call 60; refine (numbers_any _ _ _ _ _ _).mono ?_; rintro e w2 ⟨rfl, rfl⟩; obtain ⟨d0, d1, d2, _⟩ := mat_cells (heap_old (heap_old a1 (.cells #[.int .i64 C, .int .i64 C, .slice ao xs.length cap] 24)) (.cells #[.func (.func 83) #[] #[.pointer (some ⟨w1.heap.size, 0, none⟩)]] 96)))
    | (go_at_call 58; refine (sizeOf_any _ _ _ _ _ _).mono ?_; rintro e w3 ⟨rfl, b3⟩; have A3 := (atbox_mk s1).below b3)
    | (go_at_call 61; have r3 := keep b3 (heap_old (heap_old r1 _) _); refine (hrk _ _ _ A3).mono ?_; rintro e w4 ⟨v4, rfl, o4, b4⟩; obtain ⟨ao4, cap4, rfl⟩ := own_slice o4; obtain ⟨f0, f1, f2, g0, g1, g2⟩ := mat_cells (heap_old (keep b4 r3) (.cells #[.int .i64 C, .int .i64 C, .slice ao4 (C * C) cap4] 24))))
  refine bodyPost_ret (v := .tuple #[.agg #[.int .i64 C, .int .i64 C, .slice ao4 (C * C) cap4], .bool false, .int .i64 0]) (by simp [results, Try.results37, go_sem, f0, f1, f2]) rfl ?_
  have b5 := bt (bt (bt b0 b1) (ball2 w1 _ _)) b3
  exact ⟨_, rfl, own_mono (ownsRow_setCell_below (ownsRow_setCell_below (ownsRow_setCell_below (o4.alloc _) (lt_of_block r3) _) (lt_of_block r3) _) (lt_of_block r3) _) b5.size, below_put ((bt b5 b4).alloc (bt b5 b4).size _) (by omega) _ _ _⟩
end Go.Proofs.Ytiniobcknmaigaa
