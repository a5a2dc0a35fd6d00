/-
  The walk of QuatTells.
-/
import Derived.Test.YtgekignonjfaiaaDoorQSh
import Derived.Test.YtgekignonjfaiaaDoorRQ
import Derived.Test.YtgekignonjfaiaaDoorRQU
namespace Go.Proofs.YtgekignonjfaiaaDoor
open Go.RowKit Go.Sort Qm

theorem conj_calm (p : Nat → Int) (w : World) (d : Nat) (os : Array Obj) : Calls Tryd.prog 17 #[.agg #[.int .i64 (p 0), .int .i64 (p 1), .int .i64 (p 2), .int .i64 (p 3)]] (grow (redrawn w d) os) fun e w'' => e = .returned (.agg #[.int .i64 (cj p 0), .int .i64 (cj p 1), .int .i64 (cj p 2), .int .i64 (cj p 3)]) ∧ ∃ p : Regrown, w'' = grow (redrawn w p.d) p.os :=
  Calls.regrown_of (conj_any p _)
theorem rconj_calm (p : Nat → Int) (w : World) (d : Nat) (os : Array Obj) : Calls Tryd.prog 18 #[.agg #[.int .i64 (p 0), .int .i64 (p 1), .int .i64 (p 2), .int .i64 (p 3)]] (grow (redrawn w d) os) fun e w'' => e = .returned (.agg #[.int .i64 (cj p 0), .int .i64 (cj p 1), .int .i64 (cj p 2), .int .i64 (cj p 3)]) ∧ ∃ p : Regrown, w'' = grow (redrawn w p.d) p.os :=
  Calls.regrown_of (rconj_any p _)
theorem right_calm (p : Nat → Int) (w : World) (d : Nat) (os : Array Obj) : Calls Tryd.prog 19 #[.agg #[.int .i64 (p 0), .int .i64 (p 1), .int .i64 (p 2), .int .i64 (p 3)]] (grow (redrawn w d) os) fun e w'' => e = .returned (.bool (!anyB (fun k => ob (p k)) 4)) ∧ ∃ p : Regrown, w'' = grow (redrawn w p.d) p.os :=
  Calls.regrown_of (right_any p _)
theorem rright_calm (p : Nat → Int) (w : World) (d : Nat) (os : Array Obj) : Calls Tryd.prog 20 #[.agg #[.int .i64 (p 0), .int .i64 (p 1), .int .i64 (p 2), .int .i64 (p 3)]] (grow (redrawn w d) os) fun e w'' => e = .returned (.bool (!anyB (fun k => ob (p k)) 4)) ∧ ∃ p : Regrown, w'' = grow (redrawn w p.d) p.os :=
  Calls.regrown_of (rright_any p _)

set_option maxHeartbeats 3000000 in
set_option maxRecDepth 20000 in
theorem quatTells_walk (p q : Nat → Int) (w : World) (hG : Less w) :
    Calls Tryd.prog 3 #[.agg #[.int .i64 (p 0), .int .i64 (p 1), .int .i64 (p 2), .int .i64 (p 3)], .agg #[.int .i64 (q 0), .int .i64 (q 1), .int .i64 (q 2), .int .i64 (q 3)]] w fun e w' => e = .returned (.bool true) ∧ Below w.heap.size w w' := by
  obtain ⟨W, hW⟩ : ∃ W, (w.alloc (.cells #[.int .i64 (p 0), .int .i64 (p 1), .int .i64 (p 2), .int .i64 (p 3)] 24)).alloc (.cells #[.int .i64 (q 0), .int .i64 (q 1), .int .i64 (q 2), .int .i64 (q 3)] 24) = W := ⟨_, rfl⟩
  obtain ⟨g1, g2⟩ := allocs2 w (.cells #[.int .i64 (p 0), .int .i64 (p 1), .int .i64 (p 2), .int .i64 (p 3)] 24) (.cells #[.int .i64 (q 0), .int .i64 (q 1), .int .i64 (q 2), .int .i64 (q 3)] 24)
  have bW := ball2 w (.cells #[.int .i64 (p 0), .int .i64 (p 1), .int .i64 (p 2), .int .i64 (p 3)] 24) (.cells #[.int .i64 (q 0), .int .i64 (q 1), .int .i64 (q 2), .int .i64 (q 3)] 24)
  rw [hW] at g1 g2 bW
  have hGW := hG.below bW
  have M0 := shown_any W hGW
  rw [← hW] at M0
  have HW : Hid (_ = W) := hW
  clear hW hG
  have K1 : Hid (∀ a, Below W.heap.size W a → _) := fun a ha => four_cells (keep ha g1)
  have K2 : Hid (∀ a, Below W.heap.size W a → _) := fun a ha => four_cells (keep ha g2)
  have q4 := run_eq4
  have z4 := guard24
  have s4 := eq4_self
  go_enter Tryd.func3, Tryd.ntmps3
  go_wp2_with (first
    | (go_at_call 10; refine M0.mono ?_; rintro e wa ⟨rfl, ba⟩; rw [HW.out] at ba; obtain ⟨a0, a1, a2, a3, _⟩ := K1.out _ ba; obtain ⟨a4, a5, a6, a7, _⟩ := K2.out _ ba)
    | (go_at_call 11; refine (qmul_any p q _ (hGW.below ba)).mono ?_; rintro e wb ⟨rfl, bb⟩; have bb1 := bt ba bb; have bb2 := bb1.alloc bb1.size (.cells #[.int .i64 (qm p q 0), .int .i64 (qm p q 1), .int .i64 (qm p q 2), .int .i64 (qm p q 3)] 24); have gA := heap_new wb (.cells #[.int .i64 (qm p q 0), .int .i64 (qm p q 1), .int .i64 (qm p q 2), .int .i64 (qm p q 3)] 24); obtain ⟨b0, b1, b2, b3, _⟩ := K1.out _ bb2; obtain ⟨b4, b5, b6, b7, _⟩ := K2.out _ bb2)
    | (go_at_call 12; refine (rqmul_any p q _).mono ?_; rintro e wc ⟨rfl, bc⟩; have bc1 := bt bb2 bc; have bc2 := bc1.alloc bc1.size (.cells #[.int .i64 (qm p q 0), .int .i64 (qm p q 1), .int .i64 (qm p q 2), .int .i64 (qm p q 3)] 24); have gB := heap_new wc (.cells #[.int .i64 (qm p q 0), .int .i64 (qm p q 1), .int .i64 (qm p q 2), .int .i64 (qm p q 3)] 24); have gA2 := heap_old (keep bc gA) (.cells #[.int .i64 (qm p q 0), .int .i64 (qm p q 1), .int .i64 (qm p q 2), .int .i64 (qm p q 3)] 24); obtain ⟨c0, c1, c2, c3, _⟩ := K1.out _ bc2)
    | (go_at_call 13; refine (norm_any p _).mono ?_; rintro e wd ⟨rfl, bd⟩; have bd1 := bt bc2 bd; obtain ⟨d0, d1, d2, d3, _⟩ := K1.out _ bd1)
    | (go_at_call 14; refine (rnorm_any p _).mono ?_; rintro e we ⟨rfl, be⟩; have be1 := bt bd1 be; obtain ⟨e0, e1, e2, e3, _⟩ := K1.out _ be1)
    | (go_at_call 15; refine (unit_any p _).mono ?_; rintro e wf ⟨rfl, bf⟩; have bf1 := bt be1 bf; have bf2 := bf1.alloc bf1.size (.cells #[.int .i64 (un p 0), .int .i64 (un p 1), .int .i64 (un p 2), .int .i64 (un p 3)] 24); have gC := heap_new wf (.cells #[.int .i64 (un p 0), .int .i64 (un p 1), .int .i64 (un p 2), .int .i64 (un p 3)] 24); obtain ⟨f0, f1, f2, f3, _⟩ := K1.out _ bf2)
    | (go_at_call 16; refine (runit_any p _).mono ?_; rintro e wg ⟨rfl, bg⟩; have bg1 := bt bf2 bg; have bg2 := bg1.alloc bg1.size (.cells #[.int .i64 (un p 0), .int .i64 (un p 1), .int .i64 (un p 2), .int .i64 (un p 3)] 24); have gD := heap_new wg (.cells #[.int .i64 (un p 0), .int .i64 (un p 1), .int .i64 (un p 2), .int .i64 (un p 3)] 24); obtain ⟨g0, g1', g2', g3, _⟩ := K1.out _ bg2))
  have tail : Below (wc.alloc (.cells #[.int .i64 (qm p q 0), .int .i64 (qm p q 1), .int .i64 (qm p q 2), .int .i64 (qm p q 3)] 24)).heap.size (wc.alloc (.cells #[.int .i64 (qm p q 0), .int .i64 (qm p q 1), .int .i64 (qm p q 2), .int .i64 (qm p q 3)] 24)) (wg.alloc (.cells #[.int .i64 (un p 0), .int .i64 (un p 1), .int .i64 (un p 2), .int .i64 (un p 3)] 24)) :=
    bt (bt (bt (bt (bt bd be) bf) (ball1 _ _)) bg) (ball1 _ _)
  obtain ⟨A0, A1, A2, A3, _⟩ := four_cells (keep tail gA2)
  obtain ⟨B0, B1, B2, B3, _⟩ := four_cells (keep tail gB)
  obtain ⟨C0, C1, C2, C3, _⟩ := four_cells (keep (bt bg (ball1 wg (.cells #[.int .i64 (un p 0), .int .i64 (un p 1), .int .i64 (un p 2), .int .i64 (un p 3)] 24))) gC)
  obtain ⟨D0, D1, D2, D3, _⟩ := four_cells gD
  obtain ⟨V, hV⟩ : ∃ V, wg.alloc (.cells #[.int .i64 (un p 0), .int .i64 (un p 1), .int .i64 (un p 2), .int .i64 (un p 3)] 24) = V := ⟨_, rfl⟩
  rw [hV] at A0 A1 A2 A3 B0 B1 B2 B3 C0 C1 C2 C3 D0 D1 D2 D3 g0 g1' g2' g3 bg2 ⊢
  clear hV tail
  have A0 := cell_regrown A0
  have A1 := cell_regrown A1
  have A2 := cell_regrown A2
  have A3 := cell_regrown A3
  have B0 := cell_regrown B0
  have B1 := cell_regrown B1
  have B2 := cell_regrown B2
  have B3 := cell_regrown B3
  have C0 := cell_regrown C0
  have C1 := cell_regrown C1
  have C2 := cell_regrown C2
  have C3 := cell_regrown C3
  have D0 := cell_regrown D0
  have D1 := cell_regrown D1
  have D2 := cell_regrown D2
  have D3 := cell_regrown D3
  have G0 := cell_regrown g0
  have G1 := cell_regrown g1'
  have G2 := cell_regrown g2'
  have G3 := cell_regrown g3
  have h17 := conj_calm p V
  have h18 := rconj_calm p V
  have h19 := right_calm p V
  have h20 := rright_calm p V
  clear g0 g1' g2' g3 a0 a1 a2 a3 a4 a5 a6 a7 b0 b1 b2 b3 b4 b5 b6 b7 c0 c1 c2 c3 d0 d1 d2 d3 e0 e1 e2 e3 f0 f1 f2 f3 gA gB gC gD gA2 K1 K2 M0
  refine wp_region_quiet_below (by kernel_rfl) (by kernel_rfl) ?_
  repeat (quiet_step (first | (go_at_call 17; exact h17 _ _) | (go_at_call 18; exact h18 _ _) | (go_at_call 19; exact h19 _ _) | (go_at_call 20; exact h20 _ _)))
  refine wpQuiet_nil ?_
  intro _ hw'
  obtain ⟨⟨dq, osq⟩, hw''⟩ := hw'
  subst hw''
  go_wp2
  go_ret
  exact ⟨rfl, bt (bt bW bg2) (below_regrown V dq osq)⟩
end Go.Proofs.YtgekignonjfaiaaDoor
