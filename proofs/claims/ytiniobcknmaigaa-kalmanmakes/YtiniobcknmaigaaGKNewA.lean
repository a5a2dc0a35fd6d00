/-
  The contract of the code's New, of whatever rows.
-/
import Derived.Test.YtiniobcknmaigaaGKRNx
import Derived.Test.YtiniobcknmaigaaGKRgt4
import Derived.Test.YtiniobcknmaigaaG31
import Derived.Test.YtiniobcknmaigaaG36
namespace Go.Proofs.Ytiniobcknmaigaa
open Go.RowKit Go.Sort Qm

namespace Qm
/-- is one of the first k of two rows out of bounds, or below 0? -/
def bdB (xs vs : List Int) (k : Nat) : Bool := anyB (fun i => ob (ge xs i) || decide (ge vs i < 0)) k
/-- may a track be made of two rows? -/
def newP (xs vs : List Int) : Prop := (1 ≤ vs.length ∧ vs.length ≤ 8 ∧ outB vs vs.length = false) ∧ xs.length = vs.length ∧ bdB xs vs vs.length = false
theorem out_in {xs : List Int} (h : outB xs xs.length = false) : AllIn xs := fun p => by
  by_cases hp : p < xs.length
  · have := anyB_of h p hp
    exact ob_out this
  · rw [ge_out (by omega)]; omega
theorem newP_in {xs vs : List Int} (h : newP xs vs) : AllIn xs ∧ AllIn vs ∧ ∀ i, i < vs.length → 0 ≤ ge vs i := by
  obtain ⟨⟨h1, h8, ho⟩, hx, hb⟩ := h
  have hk := anyB_of hb
  refine ⟨fun p => ?_, out_in ho, fun i hi => ?_⟩
  · by_cases hp : p < vs.length
    · have := hk p hp
      simp only [Bool.or_eq_false_iff] at this
      exact ob_out this.1
    · rw [ge_out (by omega)]; omega
  · have := hk i hi
    simp only [Bool.or_eq_false_iff, decide_eq_false_iff_not] at this
    omega
theorem newP_of {xs vs : List Int} (hd : 1 ≤ vs.length ∧ vs.length ≤ 8 ∧ outB vs vs.length = false) (ht : trkB (xs.length : Nat) 1 xs (vs.length : Nat) (vs.length : Nat) (dia (ge vs) vs.length) = true) : newP xs vs := by
  obtain ⟨n, e1, _, e2, _, n1, n8, hx, hp, ix, ip, he⟩ := trk_of ht
  have e1' : xs.length = n := by omega
  have e2' : vs.length = n := by omega
  refine ⟨hd, by omega, anyB_none fun k hk => ?_⟩
  have h1 := ix k
  have h2 : ob (ge xs k) = false := ob_in h1.1 h1.2
  have h3 : 0 ≤ ge vs k := by
    unfold evB at he
    have h := (of_decide_eq_true he) k (by omega)
    have g := h.1
    rw [e2'] at g hk
    rw [diaK_at hk hk, if_pos rfl] at g
    exact g
  rw [h2]
  simp
  omega
end Qm
set_option maxRecDepth 20000 in
set_option maxHeartbeats 1600000 in
theorem knew_dno (xo vo : Option Addr) (xc vc : Nat) (xs vs : List Int) (hst : Value.slice xo xs.length xc = .slice none 0 0 ∨ ∃ a n c, Value.slice xo xs.length xc = .slice (some a) n c) (lx : xs.length ≤ 100) (lv : vs.length ≤ 100) (h : ¬ (1 ≤ vs.length ∧ vs.length ≤ 8 ∧ outB vs vs.length = false)) (w : World) (sx : Sees w (.slice xo xs.length xc) xs) (sv : Sees w (.slice vo vs.length vc) vs) :
    Calls Try.prog 11 #[.slice xo xs.length xc, .slice vo vs.length vc] w fun e b => e = .returned (.tuple #[.agg #[.int .i64 0, .int .i64 0, .slice none 0 0, .int .i64 0, .int .i64 0, .slice none 0 0], .int .i64 1]) ∧ Below w.heap.size w b := by
  have kC := fun v hs => clone_all (.slice xo xs.length xc) xs hst lx v hs
  have bW := box_below w (.cells #[.int .i64 0, .int .i64 0, .slice none 0 0, .int .i64 0, .int .i64 0, .slice none 0 0] 26)
  have x1 := heap_new w (.cells #[.int .i64 0, .int .i64 0, .slice none 0 0, .int .i64 0, .int .i64 0, .slice none 0 0] 26)
  obtain ⟨W, hW⟩ : ∃ W, w.alloc (.cells #[.int .i64 0, .int .i64 0, .slice none 0 0, .int .i64 0, .int .i64 0, .slice none 0 0] 26) = W := ⟨_, rfl⟩
  rw [hW] at bW x1
  have k1 := diag_not _ vs lv h W (sv.below bW)
  clear h lv lx hst sv
  go_enter Try.func11, Try.ntmps11
  go_wp2_with (go_at_call 26; go_must (refine k1.mono ?_); rintro e wa ⟨rfl, b1⟩)
  have h6 := heap_new wa (.cells #[.int .i64 0, .int .i64 0, .slice none 0 0] 24)
  have b1' := bt b1 (box_below wa (.cells #[.int .i64 0, .int .i64 0, .slice none 0 0] 24))
  generalize wa.alloc (.cells #[.int .i64 0, .int .i64 0, .slice none 0 0] 24) = w0 at h6 b1' ⊢
  have hM : ∀ v, Mod (fun _ => False) w0 v → Below w0.heap.size w0 v := fun v hv => hv.below (Nat.le_refl _) (fun _ h => h.elim)
  refine knx_region (D6 := wa.heap.size) (r2 := 0) (c2 := 0) (xo := xo) (po := none) (xc := xc) (pn := 0) (pc := 0) (xs := xs) (fun v hv => three_mod (keep (hM v hv) h6)) (fun v hv => kC v (((sx.below bW).below b1').below (hM v hv))) ?_
  intro us D xo' xc' wb mb e8 hD hbD sD nD
  unfold knxFr
  rw [e8]
  have bb := hM wb mb
  have h4 := keep (bt b1' bb) x1
  obtain ⟨g0, g1, g2, g3, g4, g5⟩ := six_cells h4
  obtain ⟨f0, f1, f2, f3, f4, f5⟩ := six_free h4
  clear kC sD mb hbD
  go_wp2
  refine bodyPost_ret (v := .tuple #[.agg #[.int .i64 0, .int .i64 0, .slice none 0 0, .int .i64 0, .int .i64 0, .slice none 0 0], .int .i64 1]) (by simp [results, Try.results11, go_sem, g0, g1, g2, g3, g4, g5]) rfl ?_
  exact ⟨rfl, below_six (bt bW (bt b1' bb)) (Nat.le_refl _) _ _ _ _ _ _⟩
set_option maxRecDepth 20000 in
set_option maxHeartbeats 1600000 in
theorem knew_rno (xo vo : Option Addr) (xc vc : Nat) (xs vs : List Int) (hst : Value.slice xo xs.length xc = .slice none 0 0 ∨ ∃ a n c, Value.slice xo xs.length xc = .slice (some a) n c) (lx : xs.length ≤ 100) (h1 : 1 ≤ vs.length) (h8 : vs.length ≤ 8) (ho : outB vs vs.length = false) (hR : trkB (xs.length : Nat) 1 xs (vs.length : Nat) (vs.length : Nat) (dia (ge vs) vs.length) = false) (w : World) (sx : Sees w (.slice xo xs.length xc) xs) (sv : Sees w (.slice vo vs.length vc) vs) :
    Calls Try.prog 11 #[.slice xo xs.length xc, .slice vo vs.length vc] w fun e b => e = .returned (.tuple #[.agg #[.int .i64 0, .int .i64 0, .slice none 0 0, .int .i64 0, .int .i64 0, .slice none 0 0], .int .i64 1]) ∧ Below w.heap.size w b := by
  have kC := fun v hs => clone_all (.slice xo xs.length xc) xs hst lx v hs
  have kR := fun va vb v sa sb => kright_all (xs.length : Nat) 1 (vs.length : Nat) (vs.length : Nat) va vb xs (dia (ge vs) vs.length) v sa sb
  rw [hR] at kR
  have bW := box_below w (.cells #[.int .i64 0, .int .i64 0, .slice none 0 0, .int .i64 0, .int .i64 0, .slice none 0 0] 26)
  have x1 := heap_new w (.cells #[.int .i64 0, .int .i64 0, .slice none 0 0, .int .i64 0, .int .i64 0, .slice none 0 0] 26)
  obtain ⟨W, hW⟩ : ∃ W, w.alloc (.cells #[.int .i64 0, .int .i64 0, .slice none 0 0, .int .i64 0, .int .i64 0, .slice none 0 0] 26) = W := ⟨_, rfl⟩
  rw [hW] at bW x1
  have k1 := diag_any _ vs h1 h8 ho W (sv.below bW)
  clear h1 h8 ho lx hst sv hR
  generalize dia (ge vs) vs.length = ds at k1 kR
  generalize vs.length = n at *
  go_enter Try.func11, Try.ntmps11
  go_wp2_with (go_at_call 26; go_must (refine k1.mono ?_); rintro e wa ⟨va, rfl, sa, na, b1⟩; obtain ⟨ao, ac, rfl⟩ := sa.slice)
  have h6 := heap_new wa (.cells #[.int .i64 n, .int .i64 n, .slice ao ds.length ac] 24)
  have b1' := bt b1 (box_below wa (.cells #[.int .i64 n, .int .i64 n, .slice ao ds.length ac] 24))
  have sa' := sa.alloc (.cells #[.int .i64 n, .int .i64 n, .slice ao ds.length ac] 24)
  generalize wa.alloc (.cells #[.int .i64 n, .int .i64 n, .slice ao ds.length ac] 24) = w0 at h6 b1' sa' ⊢
  have hM : ∀ v, Mod (fun _ => False) w0 v → Below w0.heap.size w0 v := fun v hv => hv.below (Nat.le_refl _) (fun _ h => h.elim)
  refine knx_region (D6 := wa.heap.size) (r2 := n) (c2 := n) (xo := xo) (po := ao) (xc := xc) (pn := ds.length) (pc := ac) (xs := xs) (fun v hv => three_mod (keep (hM v hv) h6)) (fun v hv => kC v (((sx.below bW).below b1').below (hM v hv))) ?_
  intro us D xo' xc' wb mb e8 hD hbD sD nD
  unfold knxFr
  rw [e8]
  have bb := hM wb mb
  have hR2 := kR _ _ wb sD (sa'.below bb)
  have h4 := keep (bt b1' bb) x1
  obtain ⟨c0, c1, c2, c3, c4, c5⟩ := six_cells hbD
  clear kR kC sa sa' mb
  go_wp2_with (go_at_call 15; go_must (refine hR2.mono ?_); rintro e wc ⟨rfl, b3⟩; obtain ⟨g0, g1, g2, g3, g4, g5⟩ := six_cells (keep b3 h4); obtain ⟨f0, f1, f2, f3, f4, f5⟩ := six_free (keep b3 h4))
  refine bodyPost_ret (v := .tuple #[.agg #[.int .i64 0, .int .i64 0, .slice none 0 0, .int .i64 0, .int .i64 0, .slice none 0 0], .int .i64 1]) (by simp [results, Try.results11, go_sem, g0, g1, g2, g3, g4, g5]) rfl ?_
  exact ⟨rfl, below_six (bt bW (bt (bt b1' bb) b3)) (Nat.le_refl _) _ _ _ _ _ _⟩
theorem knew_no (xo vo : Option Addr) (xc vc : Nat) (xs vs : List Int) (hst : Value.slice xo xs.length xc = .slice none 0 0 ∨ ∃ a n c, Value.slice xo xs.length xc = .slice (some a) n c) (lx : xs.length ≤ 100) (lv : vs.length ≤ 100) (h : ¬ newP xs vs) (w : World) (sx : Sees w (.slice xo xs.length xc) xs) (sv : Sees w (.slice vo vs.length vc) vs) :
    Calls Try.prog 11 #[.slice xo xs.length xc, .slice vo vs.length vc] w fun e b => e = .returned (.tuple #[.agg #[.int .i64 0, .int .i64 0, .slice none 0 0, .int .i64 0, .int .i64 0, .slice none 0 0], .int .i64 1]) ∧ Below w.heap.size w b := by
  by_cases hd : 1 ≤ vs.length ∧ vs.length ≤ 8 ∧ outB vs vs.length = false
  · cases hT : trkB (xs.length : Nat) 1 xs (vs.length : Nat) (vs.length : Nat) (dia (ge vs) vs.length) with
    | true => exact absurd (newP_of hd hT) h
    | false => exact knew_rno xo vo xc vc xs vs hst lx hd.1 hd.2.1 hd.2.2 hT w sx sv
  · exact knew_dno xo vo xc vc xs vs hst lx lv hd w sx sv
end Go.Proofs.Ytiniobcknmaigaa
