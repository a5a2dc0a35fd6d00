/-
  Texts joined, in the order in which they stand on one another: RUpN RUpd RPrN.
-/
import Derived.Test.YtiniobcknmaigaaGreatG09
import Derived.Test.YtiniobcknmaigaaGreatG14
import Derived.Test.YtiniobcknmaigaaGreatG22
import Derived.Test.YtiniobcknmaigaaGreatG29
import Derived.Test.YtiniobcknmaigaaGreatG37
import Derived.Test.YtiniobcknmaigaaGreatG38
/-
  The contract of the document's Update, where nothing is taken.
-/
namespace Go.Proofs.YtiniobcknmaigaaGreat
open Go.RowKit Go.Sort Qm

set_option maxRecDepth 40000 in
set_option maxHeartbeats 1600000 in
theorem rupdate_bad (R1 C1 R2 C2 rh ch : Int) (n1 c1 n2 c2 n3 c3 : Nat) (xo po ho : Option Addr) (z r gate : Int) (h : ¬ (rh = 1 ∧ ch = R1) ∨ r ≤ 0) (w : World) :
    Calls Tryz.prog 10 #[.agg #[.int .i64 R1, .int .i64 C1, .slice xo n1 c1, .int .i64 R2, .int .i64 C2, .slice po n2 c2], .agg #[.int .i64 rh, .int .i64 ch, .slice ho n3 c3], .int .i64 z, .int .i64 r, .int .i64 gate] w fun e b =>
      e = .returned (.tuple #[.agg #[.int .i64 0, .int .i64 0, .slice none 0 0, .int .i64 0, .int .i64 0, .slice none 0 0], .bool false, .bool false, .int .i64 (if rh = 1 ∧ ch = R1 then 1 else 9)]) ∧ Below w.heap.size w b := by
  have k1 := fun w => rinnov_not R1 C1 R2 C2 rh ch n1 c1 n2 c2 n3 c3 xo po ho z r h w
  obtain ⟨E, hE⟩ : ∃ E : Int, (if rh = 1 ∧ ch = R1 then (1 : Int) else 9) = E := ⟨_, rfl⟩
  have hE' : E = 1 ∨ E = 9 := by rw [← hE]; split <;> omega
  simp only [hE] at k1
  rw [hE]
  have bW := ball3 w (.cells #[.int .i64 R1, .int .i64 C1, .slice xo n1 c1, .int .i64 R2, .int .i64 C2, .slice po n2 c2] 26) (.cells #[.int .i64 rh, .int .i64 ch, .slice ho n3 c3] 24) (.cells #[.int .i64 0, .int .i64 0, .slice none 0 0, .int .i64 0, .int .i64 0, .slice none 0 0] 26)
  obtain ⟨_, _, x3⟩ := allocs3 w (.cells #[.int .i64 R1, .int .i64 C1, .slice xo n1 c1, .int .i64 R2, .int .i64 C2, .slice po n2 c2] 26) (.cells #[.int .i64 rh, .int .i64 ch, .slice ho n3 c3] 24) (.cells #[.int .i64 0, .int .i64 0, .slice none 0 0, .int .i64 0, .int .i64 0, .slice none 0 0] 26)
  obtain ⟨W, hW⟩ : ∃ W, ((w.alloc (.cells #[.int .i64 R1, .int .i64 C1, .slice xo n1 c1, .int .i64 R2, .int .i64 C2, .slice po n2 c2] 26)).alloc (.cells #[.int .i64 rh, .int .i64 ch, .slice ho n3 c3] 24)).alloc (.cells #[.int .i64 0, .int .i64 0, .slice none 0 0, .int .i64 0, .int .i64 0, .slice none 0 0] 26) = W := ⟨_, rfl⟩
  rw [hW] at bW x3
  have K1 := k1 W
  rw [← hW] at K1
  have HW : Hid (_ = W) := hW
  clear hW k1 h hE
  have h0 : (E == 0) = false := by simp; omega
  go_enter Tryz.func10, Tryz.ntmps10
  go_wp2_with (go_at_call 12; refine K1.mono ?_; rintro e wa ⟨rfl, b1⟩; rw [HW.out] at b1; obtain ⟨f0, f1, f2, f3, f4, f5⟩ := six_cells (keep b1 x3); obtain ⟨g0, g1, g2, g3, g4, g5⟩ := six_free (keep b1 x3))
  refine bodyPost_ret (v := .tuple #[.agg #[.int .i64 0, .int .i64 0, .slice none 0 0, .int .i64 0, .int .i64 0, .slice none 0 0], .bool false, .bool false, .int .i64 E]) (by simp [results, Tryz.results10, go_sem, f0, f1, f2, f3, f4, f5]) rfl ?_
  exact ⟨rfl, below_six (bt bW b1) (by omega) _ _ _ _ _ _⟩

set_option maxRecDepth 40000 in
set_option maxHeartbeats 1600000 in
theorem rupdate_no (n : Nat) (n1 : 1 ≤ n) (hn : n ≤ 8) (vx vp vh : Value) (xs ps hs : List Int) (hx : xs.length = n * 1) (hp : ps.length = n * n) (hh : hs.length = 1 * n) (z r gate : Int) (hr : 0 < r) (w : World) (sx : Sees w vx xs) (sp : Sees w vp ps) (sh : Sees w vh hs)
    (hno : mul gate (inS n ps hs r) < mul (inY n xs hs z) (inY n xs hs z) ∨ inS n ps hs r ≤ 0) :
    Calls Tryz.prog 10 #[.agg #[.int .i64 n, .int .i64 1, vx, .int .i64 n, .int .i64 n, vp], .agg #[.int .i64 1, .int .i64 n, vh], .int .i64 z, .int .i64 r, .int .i64 gate] w fun e b =>
      e = .returned (.tuple #[.agg #[.int .i64 n, .int .i64 1, vx, .int .i64 n, .int .i64 n, vp], .bool false, .bool (inF n xs ps hs z r || mulB (inY n xs hs z) (inY n xs hs z) || mulB gate (inS n ps hs r)), .int .i64 0]) ∧ Below w.heap.size w b := by
  have k1 := fun w sx sp sh => rinnov_any n n1 hn vx vp vh xs ps hs hx hp hh z r hr w sx sp sh
  obtain ⟨Y, hY⟩ : ∃ Y, inY n xs hs z = Y := ⟨_, rfl⟩
  obtain ⟨S, hS⟩ : ∃ S, inS n ps hs r = S := ⟨_, rfl⟩
  obtain ⟨F, hF⟩ : ∃ F, inF n xs ps hs z r = F := ⟨_, rfl⟩
  simp only [hY, hS, hF] at k1
  rw [hY, hS] at hno
  rw [hY, hS, hF]
  clear hY hS hF hx hp hh
  have m1 := fun w => rmul_any Y Y w
  have m2 := fun w => rmul_any gate S w
  obtain ⟨A, hA⟩ : ∃ A, mulB Y Y = A := ⟨_, rfl⟩
  obtain ⟨B, hB⟩ : ∃ B, mulB gate S = B := ⟨_, rfl⟩
  obtain ⟨P, hP⟩ : ∃ P, mul Y Y = P := ⟨_, rfl⟩
  obtain ⟨G, hG⟩ : ∃ G, mul gate S = G := ⟨_, rfl⟩
  simp only [hA, hP] at m1
  simp only [hB, hG] at m2
  rw [hP, hG] at hno
  rw [hA, hB]
  clear hA hB hP hG
  obtain ⟨xo, xcap, rfl⟩ := sx.slice
  obtain ⟨po, pcap, rfl⟩ := sp.slice
  obtain ⟨ho, hcap, rfl⟩ := sh.slice
  obtain ⟨W, hW⟩ : ∃ W, ((w.alloc (.cells #[.int .i64 n, .int .i64 1, .slice xo xs.length xcap, .int .i64 n, .int .i64 n, .slice po ps.length pcap] 26)).alloc (.cells #[.int .i64 1, .int .i64 n, .slice ho hs.length hcap] 24)).alloc (.cells #[.int .i64 0, .int .i64 0, .slice none 0 0, .int .i64 0, .int .i64 0, .slice none 0 0] 26) = W := ⟨_, rfl⟩
  obtain ⟨x1, x2, x3⟩ := allocs3 w (.cells #[.int .i64 n, .int .i64 1, .slice xo xs.length xcap, .int .i64 n, .int .i64 n, .slice po ps.length pcap] 26) (.cells #[.int .i64 1, .int .i64 n, .slice ho hs.length hcap] 24) (.cells #[.int .i64 0, .int .i64 0, .slice none 0 0, .int .i64 0, .int .i64 0, .slice none 0 0] 26)
  have bW := ball3 w (.cells #[.int .i64 n, .int .i64 1, .slice xo xs.length xcap, .int .i64 n, .int .i64 n, .slice po ps.length pcap] 26) (.cells #[.int .i64 1, .int .i64 n, .slice ho hs.length hcap] 24) (.cells #[.int .i64 0, .int .i64 0, .slice none 0 0, .int .i64 0, .int .i64 0, .slice none 0 0] 26)
  rw [hW] at x1 x2 x3 bW
  have K1 := k1 W (sx.below bW) (sp.below bW) (sh.below bW)
  rw [← hW] at K1
  have HW : Hid (_ = W) := hW
  clear hW k1
  have hno' : (G < P) ∨ (¬ G < P ∧ S ≤ 0) := by omega
  clear hno
  rcases hno' with hlt | ⟨hnl, hs0⟩
  all_goals
    cases F <;> cases A
    all_goals
      go_enter Tryz.func10, Tryz.ntmps10
      go_wp2_with (first
        | (have _ := M1; go_at_call 31; refine (m2 _).mono ?_; rintro e wc ⟨rfl, rfl⟩)
        | (have _ := b1; go_at_call 31; refine (m1 _).mono ?_; rintro e wb ⟨rfl, rfl⟩; have M1 : Hid True := trivial)
        | (go_at_call 12; refine K1.mono ?_; rintro e wa ⟨rfl, b1⟩; rw [HW.out] at b1; obtain ⟨f0, f1, f2, f3, f4, f5⟩ := six_cells (keep b1 x3); obtain ⟨g0, g1, g2, g3, g4, g5⟩ := six_free (keep b1 x3); obtain ⟨d0, d1, d2, d3, d4, d5⟩ := six_cells (keep b1 x1)))
      refine bodyPost_ret (v := .tuple #[.agg #[.int .i64 n, .int .i64 1, .slice xo xs.length xcap, .int .i64 n, .int .i64 n, .slice po ps.length pcap], .bool false, .bool _, .int .i64 0]) (by simp [results, Tryz.results10, go_sem, f0, f1, f2, f3, f4, f5]; rfl) rfl ?_
      exact ⟨rfl, below_six (bt bW b1) (by omega) _ _ _ _ _ _⟩
end Go.Proofs.YtiniobcknmaigaaGreat

/-
  The contract of the document's Update, where what is measured is taken.
-/
namespace Go.Proofs.YtiniobcknmaigaaGreat
open Go.RowKit Go.Sort Qm


set_option maxRecDepth 60000 in
set_option maxHeartbeats 8000000 in
theorem rupdate_any (n : Nat) (n1 : 1 ≤ n) (hn : n ≤ 8) (vx vp vh : Value) (xs ps hs : List Int) (hx : xs.length = n * 1) (hp : ps.length = n * n) (hh : hs.length = 1 * n) (z r gate : Int) (hr : 0 < r) (w : World) (sx : Sees w vx xs) (sp : Sees w vp ps) (sh : Sees w vh hs)
    (hyes : ¬ mul gate (inS n ps hs r) < mul (inY n xs hs z) (inY n xs hs z)) (hS0 : 0 < inS n ps hs r) :
    Calls Tryz.prog 10 #[.agg #[.int .i64 n, .int .i64 1, vx, .int .i64 n, .int .i64 n, vp], .agg #[.int .i64 1, .int .i64 n, vh], .int .i64 z, .int .i64 r, .int .i64 gate] w fun e b =>
      ∃ v v', e = .returned (.tuple #[.agg #[.int .i64 n, .int .i64 1, v, .int .i64 n, .int .i64 n, v'], .bool true, .bool (dvF (inF n xs ps hs z r || mulB (inY n xs hs z) (inY n xs hs z) || mulB gate (inS n ps hs r) || upC n ps hs) (upK0 n ps hs) (inS n ps hs r) n || upE n xs ps hs (upK n ps hs (inS n ps hs r)) (inY n xs hs z) r), .int .i64 0]) ∧
        Sees b v (upX xs (upK n ps hs (inS n ps hs r)) (inY n xs hs z)) ∧ Sees b v' (gd n (upPP n ps hs (upK n ps hs (inS n ps hs r)) r)) ∧ New w.heap.size v ∧ New w.heap.size v' ∧ Below w.heap.size w b := by
  have k1 := fun w sx sp sh => rinnov_any n n1 hn vx vp vh xs ps hs hx hp hh z r hr w sx sp sh
  obtain ⟨Y, hY⟩ : ∃ Y, inY n xs hs z = Y := ⟨_, rfl⟩
  obtain ⟨S, hS⟩ : ∃ S, inS n ps hs r = S := ⟨_, rfl⟩
  obtain ⟨F, hF⟩ : ∃ F, inF n xs ps hs z r = F := ⟨_, rfl⟩
  simp only [hY, hS, hF] at k1
  rw [hY, hS] at hyes
  rw [hS] at hS0
  rw [hY, hS, hF]
  clear hY hS hF
  have m1 := fun w => rmul_any Y Y w
  have m2 := fun w => rmul_any gate S w
  obtain ⟨A, hA⟩ : ∃ A, mulB Y Y = A := ⟨_, rfl⟩
  obtain ⟨B, hB⟩ : ∃ B, mulB gate S = B := ⟨_, rfl⟩
  obtain ⟨P, hP⟩ : ∃ P, mul Y Y = P := ⟨_, rfl⟩
  obtain ⟨G, hG⟩ : ∃ G, mul gate S = G := ⟨_, rfl⟩
  simp only [hA, hP] at m1
  simp only [hB, hG] at m2
  rw [hP, hG] at hyes
  rw [hA, hB]
  clear hA hB hP hG
  have hns : ¬ S ≤ 0 := by omega
  -- what each call tells
  have lK0 : (upK0 n ps hs).length = n := (prd_len n n 1 ps (trn 1 n hs)).trans (Nat.mul_one n)
  have lK : (upK n ps hs S).length = n := tab_len _ _
  have lK1 : (upK n ps hs S).length = n * 1 := by rw [lK, Nat.mul_one]
  have cT : ∀ (v : World) (s : Value), Sees v s hs → Calls Tryz.prog 32 #[.agg #[.int .i64 1, .int .i64 n, s]] v fun e b => ∃ v', e = .returned (.agg #[.int .i64 n, .int .i64 1, v']) ∧ Sees b v' (trn 1 n hs) ∧ New v.heap.size v' ∧ Below v.heap.size v b := fun v s h => rtrans_any 1 n (by omega) (by omega) n1 hn s hs hh v h
  have cK : ∀ (v : World) (s t : Value), Sees v s ps → Sees v t (trn 1 n hs) → Calls Tryz.prog 24 #[.agg #[.int .i64 n, .int .i64 n, s], .agg #[.int .i64 n, .int .i64 1, t]] v fun e b => ∃ v', e = .returned (.tuple #[.agg #[.int .i64 n, .int .i64 1, v'], .bool (upC n ps hs), .int .i64 0]) ∧ Owned n 0 b v' (upK0 n ps hs) ∧ New v.heap.size v' ∧ Below v.heap.size v b := by
    intro v s t h1 h2
    have k := rmul_own n n 1 n1 hn n1 hn (by omega) (by omega) s t ps (trn 1 n hs) hp (trn_len _ _ _) v h1 h2
    refine k.mono ?_
    rintro e b ⟨v', rfl, ho, hb⟩
    rw [Nat.mul_one] at ho
    exact ⟨v', rfl, ⟨lK0, by omega, own_mono ho (Nat.zero_le _)⟩, New.own ho, hb⟩
  have cS1 : ∀ (v : World) (s : Value), Sees v s (upK n ps hs S) → Calls Tryz.prog 34 #[.agg #[.int .i64 n, .int .i64 1, s], .int .i64 Y] v fun e b => ∃ v', e = .returned (.tuple #[.agg #[.int .i64 n, .int .i64 1, v'], .bool (sclB (upK n ps hs S) Y)]) ∧ Sees b v' (scl (upK n ps hs S) Y) ∧ New v.heap.size v' ∧ Below v.heap.size v b := fun v s h => rscale_any n 1 n1 hn (by omega) (by omega) Y s (upK n ps hs S) lK1 v h
  have cA1 : ∀ (v : World) (s t : Value), Sees v s xs → Sees v t (scl (upK n ps hs S) Y) → Calls Tryz.prog 26 #[.agg #[.int .i64 n, .int .i64 1, s], .agg #[.int .i64 n, .int .i64 1, t]] v fun e b => ∃ v', e = .returned (.tuple #[.agg #[.int .i64 n, .int .i64 1, v'], .bool (paiB addB xs (scl (upK n ps hs S) Y)), .int .i64 0]) ∧ Sees b v' (upX xs (upK n ps hs S) Y) ∧ New v.heap.size v' ∧ Below v.heap.size v b := fun v s t h1 h2 => radd_mat n 1 n1 hn (by omega) (by omega) s t xs (scl (upK n ps hs S) Y) hx (by rw [scl_len, lK1]) v h1 h2
  have cE : ∀ (v : World), Calls Tryz.prog 35 #[.int .i64 n] v fun e b => ∃ v', e = .returned (.tuple #[.agg #[.int .i64 n, .int .i64 n, v'], .int .i64 0]) ∧ Sees b v' (dia (fun _ => 16777216) n) ∧ New v.heap.size v' ∧ Below v.heap.size v b := fun v => reye_any n n1 hn v
  have cM1 : ∀ (v : World) (s t : Value), Sees v s (upK n ps hs S) → Sees v t hs → Calls Tryz.prog 24 #[.agg #[.int .i64 n, .int .i64 1, s], .agg #[.int .i64 1, .int .i64 n, t]] v fun e b => ∃ v', e = .returned (.tuple #[.agg #[.int .i64 n, .int .i64 n, v'], .bool (prdB n 1 n (upK n ps hs S) hs), .int .i64 0]) ∧ Sees b v' (upKH n hs (upK n ps hs S)) ∧ New v.heap.size v' ∧ Below v.heap.size v b := fun v s t h1 h2 => rmul_mat n 1 n n1 hn (by omega) (by omega) n1 hn s t (upK n ps hs S) hs lK1 hh v h1 h2
  have cSb : ∀ (v : World) (s t : Value), Sees v s (dia (fun _ => 16777216) n) → Sees v t (upKH n hs (upK n ps hs S)) → Calls Tryz.prog 36 #[.agg #[.int .i64 n, .int .i64 n, s], .agg #[.int .i64 n, .int .i64 n, t]] v fun e b => ∃ v', e = .returned (.tuple #[.agg #[.int .i64 n, .int .i64 n, v'], .bool (paiB subB (dia (fun _ => 16777216) n) (upKH n hs (upK n ps hs S))), .int .i64 0]) ∧ Sees b v' (upIK n hs (upK n ps hs S)) ∧ New v.heap.size v' ∧ Below v.heap.size v b := fun v s t h1 h2 => rsub_mat n n n1 hn n1 hn s t (dia (fun _ => 16777216) n) (upKH n hs (upK n ps hs S)) (dia_len _ _) (prd_len _ _ _ _ _) v h1 h2
  have cMd : ∀ (v : World) (s t : Value), Sees v s (upIK n hs (upK n ps hs S)) → Sees v t ps → Calls Tryz.prog 25 #[.agg #[.int .i64 n, .int .i64 n, s], .agg #[.int .i64 n, .int .i64 n, t]] v fun e b => ∃ v', e = .returned (.tuple #[.agg #[.int .i64 n, .int .i64 n, v'], .bool (midB n n (upIK n hs (upK n ps hs S)) ps)]) ∧ Sees b v' (upP1 n ps hs (upK n ps hs S)) ∧ New v.heap.size v' ∧ Below v.heap.size v b := fun v s t h1 h2 => rmid_any n n n1 hn n1 hn s t (upIK n hs (upK n ps hs S)) ps (by unfold upIK; rw [pai_len, dia_len]) hp v h1 h2
  have cS2 : ∀ (v : World) (s : Value), Sees v s (upK n ps hs S) → Calls Tryz.prog 34 #[.agg #[.int .i64 n, .int .i64 1, s], .int .i64 r] v fun e b => ∃ v', e = .returned (.tuple #[.agg #[.int .i64 n, .int .i64 1, v'], .bool (sclB (upK n ps hs S) r)]) ∧ Sees b v' (scl (upK n ps hs S) r) ∧ New v.heap.size v' ∧ Below v.heap.size v b := fun v s h => rscale_any n 1 n1 hn (by omega) (by omega) r s (upK n ps hs S) lK1 v h
  have cT2 : ∀ (v : World) (s : Value), Sees v s (upK n ps hs S) → Calls Tryz.prog 32 #[.agg #[.int .i64 n, .int .i64 1, s]] v fun e b => ∃ v', e = .returned (.agg #[.int .i64 1, .int .i64 n, v']) ∧ Sees b v' (trn n 1 (upK n ps hs S)) ∧ New v.heap.size v' ∧ Below v.heap.size v b := fun v s h => rtrans_any n 1 n1 hn (by omega) (by omega) s (upK n ps hs S) lK1 v h
  have cM2 : ∀ (v : World) (s t : Value), Sees v s (scl (upK n ps hs S) r) → Sees v t (trn n 1 (upK n ps hs S)) → Calls Tryz.prog 24 #[.agg #[.int .i64 n, .int .i64 1, s], .agg #[.int .i64 1, .int .i64 n, t]] v fun e b => ∃ v', e = .returned (.tuple #[.agg #[.int .i64 n, .int .i64 n, v'], .bool (prdB n 1 n (scl (upK n ps hs S) r) (trn n 1 (upK n ps hs S))), .int .i64 0]) ∧ Sees b v' (upP2 n (upK n ps hs S) r) ∧ New v.heap.size v' ∧ Below v.heap.size v b := fun v s t h1 h2 => rmul_mat n 1 n n1 hn (by omega) (by omega) n1 hn s t (scl (upK n ps hs S) r) (trn n 1 (upK n ps hs S)) (by rw [scl_len, lK1]) (trn_len _ _ _) v h1 h2
  have cA2 : ∀ (v : World) (s t : Value), Sees v s (upP1 n ps hs (upK n ps hs S)) → Sees v t (upP2 n (upK n ps hs S) r) → Calls Tryz.prog 26 #[.agg #[.int .i64 n, .int .i64 n, s], .agg #[.int .i64 n, .int .i64 n, t]] v fun e b => ∃ v', e = .returned (.tuple #[.agg #[.int .i64 n, .int .i64 n, v'], .bool (paiB addB (upP1 n ps hs (upK n ps hs S)) (upP2 n (upK n ps hs S) r)), .int .i64 0]) ∧ Sees b v' (upPP n ps hs (upK n ps hs S) r) ∧ New v.heap.size v' ∧ Below v.heap.size v b := fun v s t h1 h2 => radd_mat n n n1 hn n1 hn s t (upP1 n ps hs (upK n ps hs S)) (upP2 n (upK n ps hs S) r) (midL_len _ _ _ _) (prd_len _ _ _ _ _) v h1 h2
  have cG : ∀ (v : World) (s : Value), Sees v s (upPP n ps hs (upK n ps hs S) r) → Calls Tryz.prog 27 #[.agg #[.int .i64 n, .int .i64 n, s]] v fun e b => ∃ v', e = .returned (.agg #[.int .i64 n, .int .i64 n, v']) ∧ Sees b v' (gd n (upPP n ps hs (upK n ps hs S) r)) ∧ New v.heap.size v' ∧ Below v.heap.size v b := fun v s h => rgood_any n n1 hn s (upPP n ps hs (upK n ps hs S) r) (by unfold upPP; rw [pai_len]; exact midL_len _ _ _ _) (pai_add_in _ _) v h
  have zT : 0 < (trn 1 n hs).length := by rw [trn_len]; omega
  have zK : 0 < (upK0 n ps hs).length := by omega
  have zT2 : 0 < (trn n 1 (upK n ps hs S)).length := by rw [trn_len]; omega
  have zP2 : 0 < (upP2 n (upK n ps hs S) r).length := by unfold upP2; rw [prd_len]; exact Nat.mul_pos n1 n1
  have fK : Hid ((upK n ps hs S) = tab (fun k => div (ge (upK0 n ps hs) k) S) n) := rfl
  have fK0 : Hid ((upK0 n ps hs).length = n) := lK0
  unfold upE
  generalize trn 1 n hs = T1 at *
  generalize upPP n ps hs (upK n ps hs S) r = PP at *
  generalize upX xs (upK n ps hs S) Y = XN at *
  generalize midB n n (upIK n hs (upK n ps hs S)) ps = b5 at *
  generalize paiB addB (upP1 n ps hs (upK n ps hs S)) (upP2 n (upK n ps hs S) r) = b8 at *
  generalize upP1 n ps hs (upK n ps hs S) = P1 at *
  generalize upP2 n (upK n ps hs S) r = P2 at *
  generalize paiB subB (dia (fun _ => 16777216) n) (upKH n hs (upK n ps hs S)) = b4 at *
  generalize upIK n hs (upK n ps hs S) = IK at *
  generalize prdB n 1 n (upK n ps hs S) hs = b3 at *
  generalize upKH n hs (upK n ps hs S) = KH at *
  generalize prdB n 1 n (scl (upK n ps hs S) r) (trn n 1 (upK n ps hs S)) = b7 at *
  generalize trn n 1 (upK n ps hs S) = T2 at *
  generalize sclB (upK n ps hs S) Y = b1 at *
  generalize paiB addB xs (scl (upK n ps hs S) Y) = b2 at *
  generalize scl (upK n ps hs S) Y = KY at *
  generalize sclB (upK n ps hs S) r = b6 at *
  generalize scl (upK n ps hs S) r = KR at *
  generalize dia (fun _ => 16777216) n = EY at *
  generalize upK n ps hs S = KD at *
  generalize upK0 n ps hs = K0 at *
  generalize upC n ps hs = C at *
  have LT : Hid (0 < T1.length ∧ 0 < K0.length ∧ 0 < T2.length ∧ 0 < P2.length) := ⟨zT, zK, zT2, zP2⟩
  clear zT zK zT2 zP2 lK lK1 lK0 hx hp hh
  obtain ⟨xo, xcap, rfl⟩ := sx.slice
  obtain ⟨po, pcap, rfl⟩ := sp.slice
  obtain ⟨ho, hcap, rfl⟩ := sh.slice
  obtain ⟨W, hW⟩ : ∃ W, ((w.alloc (.cells #[.int .i64 n, .int .i64 1, .slice xo xs.length xcap, .int .i64 n, .int .i64 n, .slice po ps.length pcap] 26)).alloc (.cells #[.int .i64 1, .int .i64 n, .slice ho hs.length hcap] 24)).alloc (.cells #[.int .i64 0, .int .i64 0, .slice none 0 0, .int .i64 0, .int .i64 0, .slice none 0 0] 26) = W := ⟨_, rfl⟩
  obtain ⟨x1, x2, x3⟩ := allocs3 w (.cells #[.int .i64 n, .int .i64 1, .slice xo xs.length xcap, .int .i64 n, .int .i64 n, .slice po ps.length pcap] 26) (.cells #[.int .i64 1, .int .i64 n, .slice ho hs.length hcap] 24) (.cells #[.int .i64 0, .int .i64 0, .slice none 0 0, .int .i64 0, .int .i64 0, .slice none 0 0] 26)
  have bW := ball3 w (.cells #[.int .i64 n, .int .i64 1, .slice xo xs.length xcap, .int .i64 n, .int .i64 n, .slice po ps.length pcap] 26) (.cells #[.int .i64 1, .int .i64 n, .slice ho hs.length hcap] 24) (.cells #[.int .i64 0, .int .i64 0, .slice none 0 0, .int .i64 0, .int .i64 0, .slice none 0 0] 26)
  rw [hW] at x1 x2 x3 bW
  have K1 := k1 W (sx.below bW) (sp.below bW) (sh.below bW)
  rw [← hW] at K1
  have HW : Hid (_ = W) := hW
  clear hW k1
  obtain ⟨O, hO⟩ : ∃ O, (F || A || B || C) = O := ⟨_, rfl⟩
  rw [hO]
  have HO : Hid ((F || A || B || C) = O) := hO
  clear hO
  rcases five F A B C with rfl | ⟨rfl, rfl⟩ | ⟨rfl, rfl, rfl⟩ | ⟨rfl, rfl, rfl, rfl⟩ | ⟨rfl, rfl, rfl, rfl⟩
  all_goals
    go_enter Tryz.func10, Tryz.ntmps10
    go_wp2_with (first
      | (have _ := M1; go_at_call 31; refine (m2 _).mono ?_; rintro e wq ⟨rfl, hq⟩; rw [hq]; clear hq)
      | (have _ := b1'; go_at_call 31; refine (m1 _).mono ?_; rintro e wq ⟨rfl, hq⟩; rw [hq]; clear hq; have M1 : Hid True := trivial)
      | (go_at_call 12; refine K1.mono ?_; rintro e wa ⟨rfl, b1'⟩; rw [HW.out] at b1'; obtain ⟨d0, d1, d2, d3, d4, d5⟩ := six_cells (keep b1' x1)))
    have bA := bt bW b1'
    refine upk_region (D5 := w.heap.size) (D6 := w.heap.size + 1) (n := n) (M := n) (ts := T1) (zs := K0) LT.out.1 LT.out.2.1 (fun v hv => ?_) (fun v hv => ?_) (fun v hv => cT v _ (sh.below (bt bA hv))) (fun v hv s hs' => cK v _ s (sp.below (bt bA hv)) hs') ?_
    · obtain ⟨c0, c1, c2, c3, c4, c5⟩ := six_cells (keep (bt b1' hv) x1); exact ⟨c3, c4, c5⟩
    · obtain ⟨c0, c1, c2, _⟩ := mat_cells (keep (bt b1' hv) x2); exact ⟨c0, c1, c2⟩
    intro vs D sl wb bb e22 e23 e24 gD hDW sD nD
    unfold upkFr
    rw [e22, e23, e24]
    have bB := bt bA bb
    obtain ⟨g, gc, rfl, _⟩ := own_form sD.2.2 sD.2.1
    have hgA : wa.heap.size ≤ g := nD g rfl
    have bWB := bt b1' bb
    have F0 : Fills wb g gc n (dvu K0 S 0) wb := by
      refine Fills.start (base := 0) ?_
      have e : tab (dvu K0 S 0) n = K0 := tab_ge fK0.out fun k _ => if_neg (Nat.not_lt_zero k)
      rw [e]
      exact sD.2.2
    have gx22 := F0.apart gD
    clear sD nD
    obtain ⟨v0, v1, v2, _⟩ := mat_cells gD
    go_wp2
    go_loopw [16, 25] (fun o i wr => ∃ a : Nat, a ≤ n ∧ i = .int .i64 a ∧ o = .bool (dvF O K0 S a) ∧ Fills wb g gc n (dvu K0 S a) wr) (fun _ i _ => n - (intOf i).toNat)
    case atStart => exact ⟨0, Nat.zero_le _, rfl, by rw [← HO.out]; rfl, F0⟩
    case round =>
      clear F0
      obtain ⟨a, ha, rfl, rfl, hF⟩ := hrel
      have X22 := hF.keep gD gx22
      obtain ⟨v0, v1, v2, _⟩ := mat_cells X22
      by_cases hlt : a < n
      · have hc := hF.cell hlt
        have hf := hF.free a
        rw [dvu_at] at hc
        have HFs : Hid (Fills wb g gc n (dvu K0 S (a + 1)) (wr.setCell ⟨g, a, none⟩ (.int .i64 (div (ge K0 a) S)))) := (hF.store a _).congr fun k _ => dvu_put K0 S a k
        have HB : Hid (dvF O K0 S (a + 1) = (dvF O K0 S a || divB (ge K0 a) S)) := rfl
        have hd := fun w => rdiv_any (ge K0 a) S w
        obtain ⟨qq, hqq⟩ : ∃ q, div (ge K0 a) S = q := ⟨_, rfl⟩
        obtain ⟨dd, hdd⟩ : ∃ d, divB (ge K0 a) S = d := ⟨_, rfl⟩
        rw [hqq] at HFs
        rw [hdd] at HB
        simp only [hqq, hdd] at hd
        obtain ⟨xx, hxx⟩ : ∃ x, ge K0 a = x := ⟨_, rfl⟩
        rw [hxx] at hc
        simp only [hxx] at hd
        clear hF hqq hdd hxx X22
        cases hz : dvF O K0 S a
        all_goals
          go_wp2_with (go_at_call 33; refine (hd _).mono ?_; rintro e wq ⟨rfl, hq⟩; rw [hq]; clear hq)
          go_roundw
          case rel => exact ⟨a + 1, by omega, by go_num, by rw [HB.out, hz]; rfl, HFs.out⟩
          case measure => simp [intOf]; omega
      · have e : n = a := by omega
        subst e
        have hFn : Fills wb g gc n (fun k => div (ge K0 k) S) wr := hF.congr fun k hk => if_pos hk
        have sK : Sees wr (.slice (some ⟨g, 0, none⟩) n gc) KD := by rw [fK.out]; exact hFn.shows
        have hl1 := lt_of_block x1
        have hl2 := lt_of_block x2
        have hl3 := lt_of_block x3
        have hsA := b1'.size
        have X1 := hF.keep (keep bWB x1) (by omega)
        have X2 := hF.keep (keep bWB x2) (by omega)
        have X3 := hF.keep (keep bWB x3) (by omega)
        have bR := hF.below bB (by omega)
        have sx' := hF.sees sx bB (by omega)
        have sp' := hF.sees sp bB (by omega)
        have sh' := hF.sees sh bB (by omega)
        obtain ⟨Z, hZ⟩ : ∃ Z, dvF O K0 S n = Z := ⟨_, rfl⟩
        have HZ : Hid (O = true → Z = true) := fun h => by rw [← hZ, h]; exact dvF_true _ _ _
        have HE : Hid (dvF O K0 S n = Z) := hZ
        rw [hZ]
        clear hZ
        clear hF hFn hl1 hl2 hl3 hsA hgA hlt ha
        go_wp2_with (first
          | (have _ := q6; go_at_call 34; refine (cS2 _ _ (sK.below kr6)).mono ?_; rintro e w7 ⟨s7, rfl, y7, _, q7⟩; obtain ⟨o7, p7, rfl⟩ := y7.slice; have z7 := heap_new w7 (.cells #[.int .i64 n, .int .i64 1, .slice o7 KR.length p7] 24); have bd7 := bt q7 (box_below w7 (.cells #[.int .i64 n, .int .i64 1, .slice o7 KR.length p7] 24)); have t7 := y7.alloc (.cells #[.int .i64 n, .int .i64 1, .slice o7 KR.length p7] 24); have kr7 := bt kr6 bd7)
          | (go_at_call 34; refine (cS1 _ _ sK).mono ?_; rintro e w1 ⟨s1, rfl, y1, _, q1⟩; obtain ⟨o1, p1, rfl⟩ := y1.slice; have z1 := heap_new w1 (.cells #[.int .i64 n, .int .i64 1, .slice o1 KY.length p1] 24); have bd1 := bt q1 (box_below w1 (.cells #[.int .i64 n, .int .i64 1, .slice o1 KY.length p1] 24)); have t1 := y1.alloc (.cells #[.int .i64 n, .int .i64 1, .slice o1 KY.length p1] 24); have kr1 := bd1; obtain ⟨x100, x101, x102, x103, x104, x105⟩ := six_cells (keep kr1 X1); obtain ⟨x110, x111, x112, _⟩ := mat_cells (z1))
          | (go_at_call 26; refine (cA1 _ _ _ (sx'.below kr1) t1).mono ?_; rintro e w2 ⟨s2, rfl, y2, n2', q2⟩; obtain ⟨o2, p2, rfl⟩ := y2.slice; have z2 := heap_new w2 (.cells #[.int .i64 n, .int .i64 1, .slice o2 XN.length p2] 24); have bd2 := bt q2 (box_below w2 (.cells #[.int .i64 n, .int .i64 1, .slice o2 XN.length p2] 24)); have t2 := y2.alloc (.cells #[.int .i64 n, .int .i64 1, .slice o2 XN.length p2] 24); have kr2 := bt kr1 bd2; obtain ⟨x200, x201, x202, x203, x204, x205⟩ := six_cells (keep kr2 X1))
          | (go_at_call 35; refine (cE _).mono ?_; rintro e w3 ⟨s3, rfl, y3, _, q3⟩; obtain ⟨o3, p3, rfl⟩ := y3.slice; have z3 := heap_new w3 (.cells #[.int .i64 n, .int .i64 n, .slice o3 EY.length p3] 24); have bd3 := bt q3 (box_below w3 (.cells #[.int .i64 n, .int .i64 n, .slice o3 EY.length p3] 24)); have t3 := y3.alloc (.cells #[.int .i64 n, .int .i64 n, .slice o3 EY.length p3] 24); have kr3 := bt kr2 bd3; obtain ⟨x300, x301, x302, _⟩ := mat_cells (keep kr3 X22); obtain ⟨x310, x311, x312, _⟩ := mat_cells (keep kr3 X2))
          | (go_at_call 24; refine (cM1 _ _ _ (sK.below kr3) (sh'.below kr3)).mono ?_; rintro e w4 ⟨s4, rfl, y4, _, q4⟩; obtain ⟨o4, p4, rfl⟩ := y4.slice; have z4 := heap_new w4 (.cells #[.int .i64 n, .int .i64 n, .slice o4 KH.length p4] 24); have bd4 := bt q4 (box_below w4 (.cells #[.int .i64 n, .int .i64 n, .slice o4 KH.length p4] 24)); have t4 := y4.alloc (.cells #[.int .i64 n, .int .i64 n, .slice o4 KH.length p4] 24); have kr4 := bt kr3 bd4; obtain ⟨x400, x401, x402, _⟩ := mat_cells (keep bd4 z3); obtain ⟨x410, x411, x412, _⟩ := mat_cells (z4))
          | (go_at_call 36; refine (cSb _ _ _ (t3.below bd4) t4).mono ?_; rintro e w5 ⟨s5, rfl, y5, _, q5⟩; obtain ⟨o5, p5, rfl⟩ := y5.slice; have z5 := heap_new w5 (.cells #[.int .i64 n, .int .i64 n, .slice o5 IK.length p5] 24); have bd5 := bt q5 (box_below w5 (.cells #[.int .i64 n, .int .i64 n, .slice o5 IK.length p5] 24)); have t5 := y5.alloc (.cells #[.int .i64 n, .int .i64 n, .slice o5 IK.length p5] 24); have kr5 := bt kr4 bd5; obtain ⟨x500, x501, x502, _⟩ := mat_cells (z5); obtain ⟨x510, x511, x512, x513, x514, x515⟩ := six_cells (keep kr5 X1))
          | (go_at_call 25; refine (cMd _ _ _ t5 (sp'.below kr5)).mono ?_; rintro e w6 ⟨s6, rfl, y6, _, q6⟩; obtain ⟨o6, p6, rfl⟩ := y6.slice; have z6 := heap_new w6 (.cells #[.int .i64 n, .int .i64 n, .slice o6 P1.length p6] 24); have bd6 := bt q6 (box_below w6 (.cells #[.int .i64 n, .int .i64 n, .slice o6 P1.length p6] 24)); have t6 := y6.alloc (.cells #[.int .i64 n, .int .i64 n, .slice o6 P1.length p6] 24); have kr6 := bt kr5 bd6; obtain ⟨x600, x601, x602, _⟩ := mat_cells (keep kr6 X22)))
        have cH7 := bt bd4 (bt bd5 (bt bd6 bd7))
        refine upr_region (D22 := D) (D43 := w7.heap.size) (n := n) (ts := T2) (zs := P2) LT.out.2.2.1 LT.out.2.2.2 (fun v hv => ?_) (fun v hv => ?_) (fun v hv => cT2 v _ (sK.below (bt kr7 hv))) (fun v hv s hs' => cM2 v _ s (t7.below hv) hs') ?_
        · obtain ⟨c0, c1, c2, _⟩ := mat_cells (keep (bt kr7 hv) X22); exact ⟨c0, c1, c2⟩
        · obtain ⟨c0, c1, c2, _⟩ := mat_cells (keep hv z7); exact ⟨c0, c1, c2⟩
        intro vs2 D2 sl2 w8 b8' e45 e46 e47 gD2 hD2 sD2 nD2
        unfold uprFr
        rw [e45, e46, e47]
        obtain ⟨o8, p8, rfl⟩ := sD2.slice
        have kr8 := bt kr7 b8'
        obtain ⟨i0, i1, i2, _⟩ := mat_cells (keep (bt bd7 b8') z6)
        obtain ⟨i3, i4, i5, _⟩ := mat_cells gD2
        rcases nine Z b1 b2 b3 b4 b5 b6 b7 with rfl | ⟨rfl, rfl⟩ | ⟨rfl, rfl, rfl⟩ | ⟨rfl, rfl, rfl, rfl⟩ | ⟨rfl, rfl, rfl, rfl, rfl⟩ | ⟨rfl, rfl, rfl, rfl, rfl, rfl⟩ | ⟨rfl, rfl, rfl, rfl, rfl, rfl, rfl⟩ | ⟨rfl, rfl, rfl, rfl, rfl, rfl, rfl, rfl⟩ | ⟨rfl, rfl, rfl, rfl, rfl, rfl, rfl, rfl⟩
        all_goals (try exact absurd (HZ.out (HO.out.symm.trans rfl)) (by decide))
        all_goals
          go_wp2_with (go_at_call 26; refine (cA2 _ _ _ (t6.below (bt bd7 b8')) sD2).mono ?_; rintro e w9 ⟨s9, rfl, y9, _, q9⟩; obtain ⟨o9, p9, rfl⟩ := y9.slice)
          have z9 := heap_new w9 (.cells #[.int .i64 n, .int .i64 n, .slice o9 PP.length p9] 24)
          have bd9 := bt q9 (box_below w9 (.cells #[.int .i64 n, .int .i64 n, .slice o9 PP.length p9] 24))
          have kr9 := bt kr8 bd9
          have t9 := y9.alloc (.cells #[.int .i64 n, .int .i64 n, .slice o9 PP.length p9] 24)
          have cH := bt bd3 (bt cH7 (bt b8' bd9))
          refine upt_region (B0 := w.heap.size) (D10 := w.heap.size + 1 + 1) (D30 := w2.heap.size) (D48 := w9.heap.size) (n := n) (xo := o2) (xn := XN.length) (xcap := p2) (zs := gd n PP) (fun k => if k = 11 then .bool false else if k = 12 then .bool false else if k = 13 then .int .i64 0 else undef) (by omega) (keep kr9 X3) (fun v hv => ?_) (fun v hv => ?_) (fun v hv => cG v _ (t9.below hv)) ?_
          · obtain ⟨c0, c1, c2, _⟩ := mat_cells (keep (bt cH hv) z2); exact ⟨c0, c1, c2⟩
          · obtain ⟨c0, c1, c2, _⟩ := mat_cells (keep hv z9); exact ⟨c0, c1, c2⟩
          intro vs3 sl3 wz bz e11 e12 e13 gR sG nG kR
          unfold uptFr
          rw [e11, e12, e13]
          have sX := kR _ _ (t2.below cH) (fun k hk => by have := n2' k hk; have := lt_of_block X3; have := kr1.size; omega)
          obtain ⟨so, scap, rfl⟩ := sG.slice
          obtain ⟨f0, f1, f2, f3, f4, f5⟩ := six_cells gR
          go_wp2
          refine bodyPost_ret (v := .tuple #[.agg #[.int .i64 n, .int .i64 1, .slice o2 XN.length p2, .int .i64 n, .int .i64 n, .slice so (gd n PP).length scap], .bool true, .bool _, .int .i64 0]) (by simp [results, Tryz.results10, go_sem, f0, f1, f2, f3, f4, f5]; rfl) rfl ?_
          exact ⟨_, _, by rw [HE.out]; rfl, sX, sG, n2'.mono (bt bR kr1).size, nG.mono (bt bR kr9).size, (bt bR kr9).trans (bz.mono (Nat.le_refl _))⟩
end Go.Proofs.YtiniobcknmaigaaGreat

/-
  The contract of the document's Predict, where the sizes don't fit.
-/
namespace Go.Proofs.YtiniobcknmaigaaGreat
open Go.RowKit Go.Sort Qm

set_option maxRecDepth 20000 in
set_option maxHeartbeats 1600000 in
theorem rpredict_not (R1 C1 R2 C2 rf cf rq cq : Int) (n1 c1 n2 c2 n3 c3 n4 c4 : Nat) (xo po fo qo : Option Addr) (h : ¬ (rf = R1 ∧ cf = R1 ∧ rq = R1 ∧ cq = R1)) (w : World) :
    Calls Tryz.prog 8 #[.agg #[.int .i64 R1, .int .i64 C1, .slice xo n1 c1, .int .i64 R2, .int .i64 C2, .slice po n2 c2], .agg #[.int .i64 rf, .int .i64 cf, .slice fo n3 c3], .agg #[.int .i64 rq, .int .i64 cq, .slice qo n4 c4]] w fun e b =>
      e = .returned (.tuple #[.agg #[.int .i64 0, .int .i64 0, .slice none 0 0, .int .i64 0, .int .i64 0, .slice none 0 0], .bool false, .int .i64 9]) ∧ Below w.heap.size w b := by
  have bW := ball4 w (.cells #[.int .i64 R1, .int .i64 C1, .slice xo n1 c1, .int .i64 R2, .int .i64 C2, .slice po n2 c2] 26) (.cells #[.int .i64 rf, .int .i64 cf, .slice fo n3 c3] 24) (.cells #[.int .i64 rq, .int .i64 cq, .slice qo n4 c4] 24) (.cells #[.int .i64 0, .int .i64 0, .slice none 0 0, .int .i64 0, .int .i64 0, .slice none 0 0] 26)
  rcases (by omega : rf ≠ R1 ∨ (rf = R1 ∧ cf ≠ R1) ∨ (rf = R1 ∧ cf = R1 ∧ rq ≠ R1) ∨ (rf = R1 ∧ cf = R1 ∧ rq = R1 ∧ cq ≠ R1)) with h1 | ⟨rfl, h1⟩ | ⟨rfl, rfl, h1⟩ | ⟨rfl, rfl, rfl, h1⟩
  · have h3 : (rf == R1) = false := by simpa using h1
    clear h
    go_enter Tryz.func8, Tryz.ntmps8
    go_wp2
    refine bodyPost_ret (v := .tuple #[.agg #[.int .i64 0, .int .i64 0, .slice none 0 0, .int .i64 0, .int .i64 0, .slice none 0 0], .bool false, .int .i64 9]) (by simp [results, Tryz.results8, go_sem]) rfl ?_
    exact ⟨rfl, bW⟩
  · have h3 : (cf == rf) = false := by simpa using h1
    clear h
    go_enter Tryz.func8, Tryz.ntmps8
    go_wp2
    refine bodyPost_ret (v := .tuple #[.agg #[.int .i64 0, .int .i64 0, .slice none 0 0, .int .i64 0, .int .i64 0, .slice none 0 0], .bool false, .int .i64 9]) (by simp [results, Tryz.results8, go_sem]) rfl ?_
    exact ⟨rfl, bW⟩
  · have h3 : (rq == cf) = false := by simpa using h1
    clear h
    go_enter Tryz.func8, Tryz.ntmps8
    go_wp2
    refine bodyPost_ret (v := .tuple #[.agg #[.int .i64 0, .int .i64 0, .slice none 0 0, .int .i64 0, .int .i64 0, .slice none 0 0], .bool false, .int .i64 9]) (by simp [results, Tryz.results8, go_sem]) rfl ?_
    exact ⟨rfl, bW⟩
  · have h3 : (cq == rq) = false := by simpa using h1
    clear h
    go_enter Tryz.func8, Tryz.ntmps8
    go_wp2
    refine bodyPost_ret (v := .tuple #[.agg #[.int .i64 0, .int .i64 0, .slice none 0 0, .int .i64 0, .int .i64 0, .slice none 0 0], .bool false, .int .i64 9]) (by simp [results, Tryz.results8, go_sem]) rfl ?_
    exact ⟨rfl, bW⟩
end Go.Proofs.YtiniobcknmaigaaGreat
