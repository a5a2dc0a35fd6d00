/-
  The walk of LinkTells.
-/
import Derived.Test.YtbhgffbmeaomkaaLSh
import Derived.Test.YtbhgffbmeaomkaaRMA
import Derived.Test.YtbhgffbmeaomkaaLS
import Derived.Test.YtbhgffbmeaomkaaLU
import Derived.Test.YtbhgffbmeaomkaaLF
import Derived.Test.YtbhgffbmeaomkaaLR
import Derived.Test.YtbhgffbmeaomkaaLE
import Derived.Test.YtbhgffbmeaomkaaLD
import Derived.Test.YtbhgffbmeaomkaaLJ
namespace Go.Proofs.Ytbhgffbmeaomkaa.Gr
open Go.RowKit Go.Sort Lm
set_option linter.unusedVariables false
set_option linter.unusedSimpArgs false

theorem tells_len {l : Lk} {p : Pk} {x : Int} (h : l.sent.length ≤ 8) : (sendL l x).sent.length ≤ 1000 ∧ (inL l p).sent.length ≤ 1000 := by
  refine ⟨?_, ?_⟩
  · unfold sendL; split
    · omega
    · simp; omega
  · unfold inL; split
    · show (List.drop _ (baseL l p).sent).length ≤ 1000
      rw [base_sent, List.length_drop]; omega
    · omega
theorem tells_right {l : Lk} (h : rightL l = true) : 0 ≤ l.first ∧ l.first ≤ 4611686018427387904 ∧ 0 ≤ l.next ∧ l.next ≤ 4611686018427388904 := by
  obtain ⟨h1, h2, h3, h4, h5, h6, h7, h8, h9⟩ := rightL_iff.1 h
  exact ⟨h5, h6, h7, by omega⟩
theorem tells_big {n : Nat} (h : n ≤ 1000) : n ≤ 17592186044416 := by omega
theorem tells_out {l : Lk} (h : l.sent.length ≤ 8) : (outL l).words.length ≤ 1000 := by show l.sent.length ≤ 1000; omega
theorem le3 {a b c : Nat} (h : ¬ 100 < (a : Int) + (b : Int) + (c : Int)) : a ≤ 1000 ∧ b ≤ 1000 ∧ c ≤ 1000 := by omega
theorem wrapIn (x : Int) (h0 : -9223372036854775808 ≤ x) (h1 : x < 9223372036854775808) : wrap64 x = x := by unfold wrap64; omega
theorem wr2 {a b : Nat} (ha : a ≤ 100000000000000) (hb : b ≤ 100000000000000) : wrap64 ((a : Int) + (b : Int)) = (a : Int) + (b : Int) := wrapIn _ (by omega) (by omega)
theorem wr3 {a b c : Nat} (ha : a ≤ 100000000000000) (hb : b ≤ 100000000000000) (hc : c ≤ 100000000000000) : wrap64 ((a : Int) + (b : Int) + (c : Int)) = (a : Int) + (b : Int) + (c : Int) := wrapIn _ (by omega) (by omega)
theorem cells16 {w : World} {b : Nat} {x0 x1 x2 x3 x4 x5 x6 x7 x8 x9 x10 x11 x12 x13 x14 x15 : Value} {t : TypeId} (h : w.heap[b]? = some (.cells #[x0, x1, x2, x3, x4, x5, x6, x7, x8, x9, x10, x11, x12, x13, x14, x15] t (0, 0))) : w.cell? ⟨b, 0, none⟩ = some x0 ∧ w.cell? ⟨b, 1, none⟩ = some x1 ∧ w.cell? ⟨b, 2, none⟩ = some x2 ∧ w.cell? ⟨b, 3, none⟩ = some x3 ∧ w.cell? ⟨b, 4, none⟩ = some x4 ∧ w.cell? ⟨b, 5, none⟩ = some x5 ∧ w.cell? ⟨b, 6, none⟩ = some x6 ∧ w.cell? ⟨b, 7, none⟩ = some x7 ∧ w.cell? ⟨b, 8, none⟩ = some x8 ∧ w.cell? ⟨b, 9, none⟩ = some x9 ∧ w.cell? ⟨b, 10, none⟩ = some x10 ∧ w.cell? ⟨b, 11, none⟩ = some x11 ∧ w.cell? ⟨b, 12, none⟩ = some x12 ∧ w.cell? ⟨b, 13, none⟩ = some x13 ∧ w.cell? ⟨b, 14, none⟩ = some x14 ∧ w.cell? ⟨b, 15, none⟩ = some x15 :=
  ⟨cell_of_tab h 0, cell_of_tab h 1, cell_of_tab h 2, cell_of_tab h 3, cell_of_tab h 4, cell_of_tab h 5, cell_of_tab h 6, cell_of_tab h 7, cell_of_tab h 8, cell_of_tab h 9, cell_of_tab h 10, cell_of_tab h 11, cell_of_tab h 12, cell_of_tab h 13, cell_of_tab h 14, cell_of_tab h 15⟩
set_option maxRecDepth 20000 in
set_option maxHeartbeats 4000000 in
theorem linkTells_walk (v : Value) (l m : Lk) (p : Pk) (x : Int) (w : World) (hv : ∃ vl vm vp, v = .agg #[.int .i64 l.own, .int .i64 l.other, .int .i64 l.first, vl, .int .i64 l.next, .int .i64 m.own, .int .i64 m.other, .int .i64 m.first, vm, .int .i64 m.next, .int .i64 p.frm, .int .i64 p.to, .int .i64 p.place, vp, .int .i64 p.wait, .int .i64 x] ∧ SeesI w vl l.sent ∧ SeesI w vm m.sent ∧ SeesI w vp p.words) (lnl : l.sent.length ≤ 100000000000000) (lnm : m.sent.length ≤ 100000000000000) (lnp : p.words.length ≤ 100000000000000) :
    Calls Try.prog 3 #[v] w fun e w' => e = .returned (.bool true) ∧ Below w.heap.size w w' := by
  obtain ⟨vl, vm, vp, rfl, sl, sm, sp⟩ := hv
  obtain ⟨ol, cl, rfl⟩ := sl.slice
  obtain ⟨om, cm, rfl⟩ := sm.slice
  obtain ⟨op, cp, rfl⟩ := sp.slice
  obtain ⟨nl, hnl⟩ : ∃ n, l.sent.length = n := ⟨_, rfl⟩
  have HNl : Hid (l.sent.length = nl) := hnl
  rw [hnl] at lnl sl ⊢
  clear hnl
  obtain ⟨nm, hnm⟩ : ∃ n, m.sent.length = n := ⟨_, rfl⟩
  have HNm : Hid (m.sent.length = nm) := hnm
  rw [hnm] at lnm sm ⊢
  clear hnm
  obtain ⟨np, hnp⟩ : ∃ n, p.words.length = n := ⟨_, rfl⟩
  have HNp : Hid (p.words.length = np) := hnp
  rw [hnp] at lnp sp ⊢
  clear hnp
  obtain ⟨B0, hB0⟩ : ∃ B, w.heap.size = B := ⟨_, rfl⟩
  have BB : Below B0 w w := Below.refl _ _
  have LE : B0 ≤ w.heap.size := Nat.le_of_eq hB0.symm
  have LEu : Hid (B0 ≤ w.heap.size) := LE
  have OLDl : Hid (∀ u, Below B0 w u → SeesI u (.slice ol nl cl) l.sent) := fun u h => sl.below (by rw [hB0]; exact h)
  have OLDm : Hid (∀ u, Below B0 w u → SeesI u (.slice om nm cm) m.sent) := fun u h => sm.below (by rw [hB0]; exact h)
  have OLDp : Hid (∀ u, Below B0 w u → SeesI u (.slice op np cp) p.words) := fun u h => sp.below (by rw [hB0]; exact h)
  rw [hB0]
  clear hB0
  clear sl sm sp
  go_enter Try.func3, Try.ntmps3
  go_upto_region 1 with (fail)
  obtain ⟨A, hA⟩ : ∃ n, w.heap.size = n := ⟨_, rfl⟩
  have bbA := box_below w (.cells #[.int .i64 l.own, .int .i64 l.other, .int .i64 l.first, .slice ol nl cl, .int .i64 l.next, .int .i64 m.own, .int .i64 m.other, .int .i64 m.first, .slice om nm cm, .int .i64 m.next, .int .i64 p.frm, .int .i64 p.to, .int .i64 p.place, .slice op np cp, .int .i64 p.wait, .int .i64 x] 28)
  have HA0 := heap_new w (.cells #[.int .i64 l.own, .int .i64 l.other, .int .i64 l.first, .slice ol nl cl, .int .i64 l.next, .int .i64 m.own, .int .i64 m.other, .int .i64 m.first, .slice om nm cm, .int .i64 m.next, .int .i64 p.frm, .int .i64 p.to, .int .i64 p.place, .slice op np cp, .int .i64 p.wait, .int .i64 x] 28)
  obtain ⟨u0, hu0⟩ : ∃ u, w.alloc (.cells #[.int .i64 l.own, .int .i64 l.other, .int .i64 l.first, .slice ol nl cl, .int .i64 l.next, .int .i64 m.own, .int .i64 m.other, .int .i64 m.first, .slice om nm cm, .int .i64 m.next, .int .i64 p.frm, .int .i64 p.to, .int .i64 p.place, .slice op np cp, .int .i64 p.wait, .int .i64 x] 28) = u := ⟨_, rfl⟩
  rw [hu0] at bbA HA0
  rw [hA] at HA0 ⊢
  rw [hu0]
  have HA : Hid (u0.heap[A]? = _) := HA0
  have BB : Below B0 w u0 := below_up BB LE bbA
  have LE : B0 ≤ u0.heap.size := Nat.le_trans LE bbA.size
  have LEu : Hid (B0 ≤ u0.heap.size) := LE
  clear hu0 bbA HA0 hA
  obtain ⟨a0, a1, a2, a3, a4, a5, a6, a7, a8, a9, a10, a11, a12, a13, a14, a15⟩ := cells16 HA.out
  go_upto_region 2 with (fail)
  clear a0 a1 a2 a3 a4 a5 a6 a7 a8 a9 a10 a11 a12 a13 a14 a15
  obtain ⟨L, hL⟩ : ∃ n, u0.heap.size = n := ⟨_, rfl⟩
  have hbL := box_below u0 (.cells #[.int .i64 l.own, .int .i64 l.other, .int .i64 l.first, .slice ol nl cl, .int .i64 l.next] 24)
  have HL0 := heap_new u0 (.cells #[.int .i64 l.own, .int .i64 l.other, .int .i64 l.first, .slice ol nl cl, .int .i64 l.next] 24)
  obtain ⟨u1, hu1⟩ : ∃ u, u0.alloc (.cells #[.int .i64 l.own, .int .i64 l.other, .int .i64 l.first, .slice ol nl cl, .int .i64 l.next] 24) = u := ⟨_, rfl⟩
  rw [hu1] at hbL HL0
  rw [hL] at HL0 ⊢
  rw [hu1]
  have bb1 := bt ((Below.refl u0.heap.size u0)) hbL
  have HL : Hid (u1.heap[L]? = _) := HL0
  have BB : Below B0 w u1 := below_up BB LE bb1
  have LE : B0 ≤ u1.heap.size := Nat.le_trans LE bb1.size
  have zL : Hid (B0 ≤ L) := (by rw [← hL]; exact Nat.le_trans LEu.out ((Below.refl u0.heap.size u0)).size : B0 ≤ L)
  have lLu : Hid (L < u1.heap.size) := lt_of_block HL.out
  have LEu : Hid (B0 ≤ u1.heap.size) := LE
  have HA : Hid (u1.heap[A]? = _) := keep bb1 HA.out
  clear hu1 hbL HL0 hL bb1
  obtain ⟨L1, L2, L3, L4, L5⟩ := five_cells HL.out
  obtain ⟨a0, a1, a2, a3, a4, a5, a6, a7, a8, a9, a10, a11, a12, a13, a14, a15⟩ := cells16 HA.out
  go_upto_region 3 with (fail)
  clear a0 a1 a2 a3 a4 a5 a6 a7 a8 a9 a10 a11 a12 a13 a14 a15
  clear L1 L2 L3 L4 L5
  obtain ⟨M, hM⟩ : ∃ n, u1.heap.size = n := ⟨_, rfl⟩
  have hbM := box_below u1 (.cells #[.int .i64 m.own, .int .i64 m.other, .int .i64 m.first, .slice om nm cm, .int .i64 m.next] 24)
  have HM0 := heap_new u1 (.cells #[.int .i64 m.own, .int .i64 m.other, .int .i64 m.first, .slice om nm cm, .int .i64 m.next] 24)
  obtain ⟨u2, hu2⟩ : ∃ u, u1.alloc (.cells #[.int .i64 m.own, .int .i64 m.other, .int .i64 m.first, .slice om nm cm, .int .i64 m.next] 24) = u := ⟨_, rfl⟩
  rw [hu2] at hbM HM0
  rw [hM] at HM0 ⊢
  rw [hu2]
  have bb2 := bt ((Below.refl u1.heap.size u1)) hbM
  have HL : Hid (u2.heap[L]? = _) := keep bb2 HL.out
  have HM : Hid (u2.heap[M]? = _) := HM0
  have BB : Below B0 w u2 := below_up BB LE bb2
  have LE : B0 ≤ u2.heap.size := Nat.le_trans LE bb2.size
  have lLM : Hid (L < M) := (by have := lLu.out; have := ((Below.refl u1.heap.size u1)).size; omega : L < M)
  have zM : Hid (B0 ≤ M) := (by rw [← hM]; exact Nat.le_trans LEu.out ((Below.refl u1.heap.size u1)).size : B0 ≤ M)
  have lLu : Hid (L < u2.heap.size) := lt_of_block HL.out
  have lMu : Hid (M < u2.heap.size) := lt_of_block HM.out
  have LEu : Hid (B0 ≤ u2.heap.size) := LE
  have HA : Hid (u2.heap[A]? = _) := keep bb2 HA.out
  clear hu2 hbM HM0 hM bb2
  obtain ⟨L1, L2, L3, L4, L5⟩ := five_cells HL.out
  obtain ⟨M1, M2, M3, M4, M5⟩ := five_cells HM.out
  obtain ⟨a0, a1, a2, a3, a4, a5, a6, a7, a8, a9, a10, a11, a12, a13, a14, a15⟩ := cells16 HA.out
  go_upto_region 4 with (fail)
  clear a0 a1 a2 a3 a4 a5 a6 a7 a8 a9 a10 a11 a12 a13 a14 a15
  clear L1 L2 L3 L4 L5 M1 M2 M3 M4 M5
  obtain ⟨P, hP⟩ : ∃ n, u2.heap.size = n := ⟨_, rfl⟩
  have hbP := box_below u2 (.cells #[.int .i64 p.frm, .int .i64 p.to, .int .i64 p.place, .slice op np cp, .int .i64 p.wait] 26)
  have HP0 := heap_new u2 (.cells #[.int .i64 p.frm, .int .i64 p.to, .int .i64 p.place, .slice op np cp, .int .i64 p.wait] 26)
  obtain ⟨u3, hu3⟩ : ∃ u, u2.alloc (.cells #[.int .i64 p.frm, .int .i64 p.to, .int .i64 p.place, .slice op np cp, .int .i64 p.wait] 26) = u := ⟨_, rfl⟩
  rw [hu3] at hbP HP0
  rw [hP] at HP0 ⊢
  rw [hu3]
  have bb3 := bt ((Below.refl u2.heap.size u2)) hbP
  have HL : Hid (u3.heap[L]? = _) := keep bb3 HL.out
  have HM : Hid (u3.heap[M]? = _) := keep bb3 HM.out
  have HP : Hid (u3.heap[P]? = _) := HP0
  have BB : Below B0 w u3 := below_up BB LE bb3
  have LE : B0 ≤ u3.heap.size := Nat.le_trans LE bb3.size
  have lLP : Hid (L < P) := (by have := lLu.out; have := ((Below.refl u2.heap.size u2)).size; omega : L < P)
  have lMP : Hid (M < P) := (by have := lMu.out; have := ((Below.refl u2.heap.size u2)).size; omega : M < P)
  have zP : Hid (B0 ≤ P) := (by rw [← hP]; exact Nat.le_trans LEu.out ((Below.refl u2.heap.size u2)).size : B0 ≤ P)
  have lLu : Hid (L < u3.heap.size) := lt_of_block HL.out
  have lMu : Hid (M < u3.heap.size) := lt_of_block HM.out
  have lPu : Hid (P < u3.heap.size) := lt_of_block HP.out
  have LEu : Hid (B0 ≤ u3.heap.size) := LE
  have HA : Hid (u3.heap[A]? = _) := keep bb3 HA.out
  clear hu3 hbP HP0 hP bb3
  obtain ⟨L1, L2, L3, L4, L5⟩ := five_cells HL.out
  obtain ⟨M1, M2, M3, M4, M5⟩ := five_cells HM.out
  obtain ⟨P1, P2, P3, P4, P5⟩ := five_cells HP.out
  obtain ⟨a0, a1, a2, a3, a4, a5, a6, a7, a8, a9, a10, a11, a12, a13, a14, a15⟩ := cells16 HA.out
  go_upto_region 5 with (fail)
  clear a0 a1 a2 a3 a4 a5 a6 a7 a8 a9 a10 a11 a12 a13 a14 a15 HA
  go_upto_region 6 with (go_at_call 10; go_must (refine (shown11 _).mono ?_); rintro e w1 ⟨rfl, b1⟩; clear L1 L2 L3 L4 L5 M1 M2 M3 M4 M5 P1 P2 P3 P4 P5; obtain ⟨L1, L2, L3, L4, L5⟩ := five_cells (keep (b1) HL.out); obtain ⟨M1, M2, M3, M4, M5⟩ := five_cells (keep (b1) HM.out); obtain ⟨P1, P2, P3, P4, P5⟩ := five_cells (keep (b1) HP.out))
  clear L1 L2 L3 L4 L5 M1 M2 M3 M4 M5 P1 P2 P3 P4 P5
  have bb4 := b1
  have HL : Hid (w1.heap[L]? = _) := keep bb4 HL.out
  have HM : Hid (w1.heap[M]? = _) := keep bb4 HM.out
  have HP : Hid (w1.heap[P]? = _) := keep bb4 HP.out
  have BB : Below B0 w w1 := below_up BB LE bb4
  have LE : B0 ≤ w1.heap.size := Nat.le_trans LE bb4.size
  have lLu : Hid (L < w1.heap.size) := lt_of_block HL.out
  have lMu : Hid (M < w1.heap.size) := lt_of_block HM.out
  have lPu : Hid (P < w1.heap.size) := lt_of_block HP.out
  have LEu : Hid (B0 ≤ w1.heap.size) := LE
  clear bb4
  obtain ⟨L1, L2, L3, L4, L5⟩ := five_cells HL.out
  obtain ⟨M1, M2, M3, M4, M5⟩ := five_cells HM.out
  obtain ⟨P1, P2, P3, P4, P5⟩ := five_cells HP.out
  have hw1 := wr2 lnl lnm
  have hw2 := wr3 lnl lnm lnp
  by_cases hs : 100 < (nl : Int) + (nm : Int) + (np : Int)
  · have ds : decide (100 < (nl : Int) + (nm : Int) + (np : Int)) = true := decide_eq_true hs
    clear HL HM HP lLM lLP lMP zL zM zP lLu lMu lPu OLDl OLDm OLDp HNl HNm HNp LE LEu hs lnl lnm lnp L1 L2 L3 L5 M1 M2 M3 M5 P1 P2 P3 P5
    go_wp2_with (fail)
    go_ret
    exact ⟨rfl, BB⟩
  have ds : decide (100 < (nl : Int) + (nm : Int) + (np : Int)) = false := decide_eq_false hs
  obtain ⟨kl, km, kp⟩ := le3 hs
  have HK : Hid (nl ≤ 1000 ∧ nm ≤ 1000 ∧ np ≤ 1000) := ⟨kl, km, kp⟩
  clear hs lnl lnm lnp kl km kp
  have cN := fun u => new_any x u
  have cO := fun u => rnewL_any x u
  have es : (newL x).sent = [] := by unfold newL; split <;> rfl
  generalize newL x = a at *
  generalize newE x = ea at *
  have HES : Hid (a.sent = []) := es
  clear es
  go_upto_region 9 with (go_at_call 11; go_must (refine (cN _).mono ?_); rintro e w2 ⟨v2, rfl, ⟨vs2, rfl, sX, nX⟩, b2⟩; clear L1 L2 L3 L4 L5 M1 M2 M3 M4 M5 P1 P2 P3 P4 P5; obtain ⟨L1, L2, L3, L4, L5⟩ := five_cells (keep (b2) HL.out); obtain ⟨M1, M2, M3, M4, M5⟩ := five_cells (keep (b2) HM.out); obtain ⟨P1, P2, P3, P4, P5⟩ := five_cells (keep (b2) HP.out); rw [HES.out] at sX; obtain ⟨g2, c2, rfl⟩ := slice_of (n := 0) sX rfl)
  clear hw1 hw2 ds
  clear L1 L2 L3 L4 L5 M1 M2 M3 M4 M5 P1 P2 P3 P4 P5
  obtain ⟨X, hX⟩ : ∃ n, w2.heap.size = n := ⟨_, rfl⟩
  have hbX := box_below w2 (.cells #[.int .i64 a.own, .int .i64 a.other, .int .i64 a.first, .slice g2 0 c2, .int .i64 a.next] 24)
  have HX0 := heap_new w2 (.cells #[.int .i64 a.own, .int .i64 a.other, .int .i64 a.first, .slice g2 0 c2, .int .i64 a.next] 24)
  obtain ⟨u5, hu5⟩ : ∃ u, w2.alloc (.cells #[.int .i64 a.own, .int .i64 a.other, .int .i64 a.first, .slice g2 0 c2, .int .i64 a.next] 24) = u := ⟨_, rfl⟩
  rw [hu5] at hbX HX0
  rw [hX] at HX0 ⊢
  rw [hu5]
  have bb5 := bt (b2) hbX
  have HL : Hid (u5.heap[L]? = _) := keep bb5 HL.out
  have HM : Hid (u5.heap[M]? = _) := keep bb5 HM.out
  have HP : Hid (u5.heap[P]? = _) := keep bb5 HP.out
  have SX := sX.below hbX
  have NX := nX
  have qXL : Hid (L < w1.heap.size) := lLu
  have qXM : Hid (M < w1.heap.size) := lMu
  have qXP : Hid (P < w1.heap.size) := lPu
  have HX : Hid (u5.heap[X]? = _) := HX0
  have BB : Below B0 w u5 := below_up BB LE bb5
  have LE : B0 ≤ u5.heap.size := Nat.le_trans LE bb5.size
  have lLX : Hid (L < X) := (by have := lLu.out; have := (b2).size; omega : L < X)
  have lMX : Hid (M < X) := (by have := lMu.out; have := (b2).size; omega : M < X)
  have lPX : Hid (P < X) := (by have := lPu.out; have := (b2).size; omega : P < X)
  have zX : Hid (B0 ≤ X) := (by rw [← hX]; exact Nat.le_trans LEu.out (b2).size : B0 ≤ X)
  have lLu : Hid (L < u5.heap.size) := lt_of_block HL.out
  have lMu : Hid (M < u5.heap.size) := lt_of_block HM.out
  have lPu : Hid (P < u5.heap.size) := lt_of_block HP.out
  have lXu : Hid (X < u5.heap.size) := lt_of_block HX.out
  have LEu : Hid (B0 ≤ u5.heap.size) := LE
  clear hu5 hbX HX0 hX bb5
  obtain ⟨L1, L2, L3, L4, L5⟩ := five_cells HL.out
  obtain ⟨M1, M2, M3, M4, M5⟩ := five_cells HM.out
  obtain ⟨P1, P2, P3, P4, P5⟩ := five_cells HP.out
  obtain ⟨X1, X2, X3, X4, X5⟩ := five_cells HX.out
  go_upto_region 10 with (go_at_call 12; go_must (refine (cO _).mono ?_); rintro e w3 ⟨v3, rfl, ⟨vs3, rfl, sY⟩, b3⟩; clear L1 L2 L3 L4 L5 M1 M2 M3 M4 M5 P1 P2 P3 P4 P5 X1 X2 X3 X4 X5; obtain ⟨L1, L2, L3, L4, L5⟩ := five_cells (keep (b3) HL.out); obtain ⟨M1, M2, M3, M4, M5⟩ := five_cells (keep (b3) HM.out); obtain ⟨P1, P2, P3, P4, P5⟩ := five_cells (keep (b3) HP.out); obtain ⟨X1, X2, X3, X4, X5⟩ := five_cells (keep (b3) HX.out); rw [HES.out] at sY; obtain ⟨g3, c3, rfl⟩ := slice_of (n := 0) sY rfl; have nY := True.intro)
  clear L1 L2 L3 L4 L5 M1 M2 M3 M4 M5 P1 P2 P3 P4 P5 X1 X2 X3 X4 X5
  obtain ⟨Y, hY⟩ : ∃ n, w3.heap.size = n := ⟨_, rfl⟩
  have hbY := box_below w3 (.cells #[.int .i64 a.own, .int .i64 a.other, .int .i64 a.first, .slice g3 0 c3, .int .i64 a.next] 24)
  have HY0 := heap_new w3 (.cells #[.int .i64 a.own, .int .i64 a.other, .int .i64 a.first, .slice g3 0 c3, .int .i64 a.next] 24)
  obtain ⟨u6, hu6⟩ : ∃ u, w3.alloc (.cells #[.int .i64 a.own, .int .i64 a.other, .int .i64 a.first, .slice g3 0 c3, .int .i64 a.next] 24) = u := ⟨_, rfl⟩
  rw [hu6] at hbY HY0
  rw [hY] at HY0 ⊢
  rw [hu6]
  have bb6 := bt (b3) hbY
  have HL : Hid (u6.heap[L]? = _) := keep bb6 HL.out
  have HM : Hid (u6.heap[M]? = _) := keep bb6 HM.out
  have HP : Hid (u6.heap[P]? = _) := keep bb6 HP.out
  have HX : Hid (u6.heap[X]? = _) := keep bb6 HX.out
  have SX := SX.below bb6
  have SY := sY.below hbY
  have NY := nY
  have qYL : Hid (L < u5.heap.size) := lLu
  have qYM : Hid (M < u5.heap.size) := lMu
  have qYP : Hid (P < u5.heap.size) := lPu
  have qYX : Hid (X < u5.heap.size) := lXu
  have HY : Hid (u6.heap[Y]? = _) := HY0
  have BB : Below B0 w u6 := below_up BB LE bb6
  have LE : B0 ≤ u6.heap.size := Nat.le_trans LE bb6.size
  have lLY : Hid (L < Y) := (by have := lLu.out; have := (b3).size; omega : L < Y)
  have lMY : Hid (M < Y) := (by have := lMu.out; have := (b3).size; omega : M < Y)
  have lPY : Hid (P < Y) := (by have := lPu.out; have := (b3).size; omega : P < Y)
  have lXY : Hid (X < Y) := (by have := lXu.out; have := (b3).size; omega : X < Y)
  have zY : Hid (B0 ≤ Y) := (by rw [← hY]; exact Nat.le_trans LEu.out (b3).size : B0 ≤ Y)
  have lLu : Hid (L < u6.heap.size) := lt_of_block HL.out
  have lMu : Hid (M < u6.heap.size) := lt_of_block HM.out
  have lPu : Hid (P < u6.heap.size) := lt_of_block HP.out
  have lXu : Hid (X < u6.heap.size) := lt_of_block HX.out
  have lYu : Hid (Y < u6.heap.size) := lt_of_block HY.out
  have LEu : Hid (B0 ≤ u6.heap.size) := LE
  clear hu6 hbY HY0 hY bb6
  obtain ⟨L1, L2, L3, L4, L5⟩ := five_cells HL.out
  obtain ⟨M1, M2, M3, M4, M5⟩ := five_cells HM.out
  obtain ⟨P1, P2, P3, P4, P5⟩ := five_cells HP.out
  obtain ⟨X1, X2, X3, X4, X5⟩ := five_cells HX.out
  obtain ⟨Y1, Y2, Y3, Y4, Y5⟩ := five_cells HY.out
  clear cN cO
  have cR := rrightL_any _ l u6 (by rw [HNl.out]; exact HK.out.1) ⟨_, rfl, OLDl.out _ BB⟩
  obtain ⟨r, hr⟩ : ∃ r, rightL l = r := ⟨_, rfl⟩
  rw [hr] at cR
  go_upto_region 11 with (go_at_call 13; go_must (refine (cR).mono ?_); rintro e w4 ⟨rfl, b4⟩; clear L1 L2 L3 L4 L5 M1 M2 M3 M4 M5 P1 P2 P3 P4 P5 X1 X2 X3 X4 X5 Y1 Y2 Y3 Y4 Y5; obtain ⟨L1, L2, L3, L4, L5⟩ := five_cells (keep (b4) HL.out); obtain ⟨M1, M2, M3, M4, M5⟩ := five_cells (keep (b4) HM.out); obtain ⟨P1, P2, P3, P4, P5⟩ := five_cells (keep (b4) HP.out); obtain ⟨X1, X2, X3, X4, X5⟩ := five_cells (keep (b4) HX.out); obtain ⟨Y1, Y2, Y3, Y4, Y5⟩ := five_cells (keep (b4) HY.out))
  clear L1 L2 L3 L4 L5 M1 M2 M3 M4 M5 P1 P2 P3 P4 P5 X1 X2 X3 X4 X5 Y1 Y2 Y3 Y4 Y5
  have bb7 := b4
  have HL : Hid (w4.heap[L]? = _) := keep bb7 HL.out
  have HM : Hid (w4.heap[M]? = _) := keep bb7 HM.out
  have HP : Hid (w4.heap[P]? = _) := keep bb7 HP.out
  have HX : Hid (w4.heap[X]? = _) := keep bb7 HX.out
  have HY : Hid (w4.heap[Y]? = _) := keep bb7 HY.out
  have SX := SX.below bb7
  have SY := SY.below bb7
  have BB : Below B0 w w4 := below_up BB LE bb7
  have LE : B0 ≤ w4.heap.size := Nat.le_trans LE bb7.size
  have lLu : Hid (L < w4.heap.size) := lt_of_block HL.out
  have lMu : Hid (M < w4.heap.size) := lt_of_block HM.out
  have lPu : Hid (P < w4.heap.size) := lt_of_block HP.out
  have lXu : Hid (X < w4.heap.size) := lt_of_block HX.out
  have lYu : Hid (Y < w4.heap.size) := lt_of_block HY.out
  have LEu : Hid (B0 ≤ w4.heap.size) := LE
  clear bb7
  obtain ⟨L1, L2, L3, L4, L5⟩ := five_cells HL.out
  obtain ⟨M1, M2, M3, M4, M5⟩ := five_cells HM.out
  obtain ⟨P1, P2, P3, P4, P5⟩ := five_cells HP.out
  obtain ⟨X1, X2, X3, X4, X5⟩ := five_cells HX.out
  obtain ⟨Y1, Y2, Y3, Y4, Y5⟩ := five_cells HY.out
  have Q1 := fun (u : World) (h : Below w4.heap.size w4 u) => rsameK_any _ _ a a u (by rw [HES.out]; simp) (by rw [HES.out]; simp) ⟨_, rfl, by rw [HES.out]; exact SX.below h⟩ ⟨_, rfl, by rw [HES.out]; exact SY.below h⟩
  rw [sameK_refl] at Q1
  have Q2 := fun (u : World) (h : Below w4.heap.size w4 u) => right_any _ l u (by rw [HNl.out]; exact HK.out.1) ⟨_, rfl, OLDl.out _ (below_up BB LE h)⟩
  rw [hr] at Q2
  have Q3 := fun (u : World) (h : Below w4.heap.size w4 u) => same_any _ _ l m u (by rw [HNl.out]; exact HK.out.1) (by rw [HNm.out]; exact HK.out.2.1) ⟨_, rfl, OLDl.out _ (below_up BB LE h)⟩ ⟨_, rfl, OLDm.out _ (below_up BB LE h)⟩
  have Q4 := fun (u : World) (h : Below w4.heap.size w4 u) => rsameK_any _ _ l m u (by rw [HNl.out]; exact HK.out.1) (by rw [HNm.out]; exact HK.out.2.1) ⟨_, rfl, OLDl.out _ (below_up BB LE h)⟩ ⟨_, rfl, OLDm.out _ (below_up BB LE h)⟩
  generalize sameK l m = s at Q3 Q4
  have HRR : Hid (rightL l = r) := hr
  clear hr
  have FC : Hid (∀ u : World, Below w4.heap.size w4 u → u.cell? ⟨L, 0, none⟩ = some (.int .i64 l.own) ∧ u.cell? ⟨L, 1, none⟩ = some (.int .i64 l.other) ∧ u.cell? ⟨L, 2, none⟩ = some (.int .i64 l.first) ∧ u.cell? ⟨L, 3, none⟩ = some (.slice ol nl cl) ∧ u.cell? ⟨L, 4, none⟩ = some (.int .i64 l.next) ∧ u.cell? ⟨M, 0, none⟩ = some (.int .i64 m.own) ∧ u.cell? ⟨M, 1, none⟩ = some (.int .i64 m.other) ∧ u.cell? ⟨M, 2, none⟩ = some (.int .i64 m.first) ∧ u.cell? ⟨M, 3, none⟩ = some (.slice om nm cm) ∧ u.cell? ⟨M, 4, none⟩ = some (.int .i64 m.next) ∧ u.cell? ⟨X, 0, none⟩ = some (.int .i64 a.own) ∧ u.cell? ⟨X, 1, none⟩ = some (.int .i64 a.other) ∧ u.cell? ⟨X, 2, none⟩ = some (.int .i64 a.first) ∧ u.cell? ⟨X, 3, none⟩ = some (.slice g2 0 c2) ∧ u.cell? ⟨X, 4, none⟩ = some (.int .i64 a.next) ∧ u.cell? ⟨Y, 0, none⟩ = some (.int .i64 a.own) ∧ u.cell? ⟨Y, 1, none⟩ = some (.int .i64 a.other) ∧ u.cell? ⟨Y, 2, none⟩ = some (.int .i64 a.first) ∧ u.cell? ⟨Y, 3, none⟩ = some (.slice g3 0 c3) ∧ u.cell? ⟨Y, 4, none⟩ = some (.int .i64 a.next)) := by
    intro u hu
    have fL := five_cells (keep hu HL.out)
    have fM := five_cells (keep hu HM.out)
    have fX := five_cells (keep hu HX.out)
    have fY := five_cells (keep hu HY.out)
    exact ⟨fL.1, fL.2.1, fL.2.2.1, fL.2.2.2.1, fL.2.2.2.2, fM.1, fM.2.1, fM.2.2.1, fM.2.2.2.1, fM.2.2.2.2, fX.1, fX.2.1, fX.2.2.1, fX.2.2.2.1, fX.2.2.2.2, fY.1, fY.2.1, fY.2.2.1, fY.2.2.2.1, fY.2.2.2.2⟩
  clear L1 L2 L3 L4 L5 M1 M2 M3 M4 M5 P1 P2 P3 P4 P5 X1 X2 X3 X4 X5 Y1 Y2 Y3 Y4 Y5
  have b0 : Below w4.heap.size w4 w4.drew := (Below.refl _ w4).drew
  go_region_held3 (fun u => u.cell? ⟨L, 0, none⟩ = some (.int .i64 l.own) ∧ u.cell? ⟨L, 1, none⟩ = some (.int .i64 l.other) ∧ u.cell? ⟨L, 2, none⟩ = some (.int .i64 l.first) ∧ u.cell? ⟨L, 3, none⟩ = some (.slice ol nl cl) ∧ u.cell? ⟨L, 4, none⟩ = some (.int .i64 l.next) ∧ u.cell? ⟨M, 0, none⟩ = some (.int .i64 m.own) ∧ u.cell? ⟨M, 1, none⟩ = some (.int .i64 m.other) ∧ u.cell? ⟨M, 2, none⟩ = some (.int .i64 m.first) ∧ u.cell? ⟨M, 3, none⟩ = some (.slice om nm cm) ∧ u.cell? ⟨M, 4, none⟩ = some (.int .i64 m.next) ∧ u.cell? ⟨X, 0, none⟩ = some (.int .i64 a.own) ∧ u.cell? ⟨X, 1, none⟩ = some (.int .i64 a.other) ∧ u.cell? ⟨X, 2, none⟩ = some (.int .i64 a.first) ∧ u.cell? ⟨X, 3, none⟩ = some (.slice g2 0 c2) ∧ u.cell? ⟨X, 4, none⟩ = some (.int .i64 a.next) ∧ u.cell? ⟨Y, 0, none⟩ = some (.int .i64 a.own) ∧ u.cell? ⟨Y, 1, none⟩ = some (.int .i64 a.other) ∧ u.cell? ⟨Y, 2, none⟩ = some (.int .i64 a.first) ∧ u.cell? ⟨Y, 3, none⟩ = some (.slice g3 0 c3) ∧ u.cell? ⟨Y, 4, none⟩ = some (.int .i64 a.next)) (first | with_reducible exact FC.out _ Ba3 | with_reducible exact FC.out _ Ba2 | with_reducible exact FC.out _ Ba1 | with_reducible exact FC.out _ Ba0 | with_reducible exact FC.out _ b0) (first | (have _ := Ba2; go_at_call 14; refine (Q4 _ Ba2).mono ?_; rintro e xa3 ⟨rfl, ba3⟩; have Ba3 := bt Ba2 ba3) | (have _ := Ba1; go_at_call 16; refine (Q3 _ Ba1).mono ?_; rintro e xa2 ⟨rfl, ba2⟩; have Ba2 := bt Ba1 ba2) | (have _ := Ba0; go_at_call 15; refine (Q2 _ Ba0).mono ?_; rintro e xa1 ⟨rfl, ba1⟩; have Ba1 := bt Ba0 ba1) | (go_at_call 14; refine (Q1 _ b0).mono ?_; rintro e xa0 ⟨rfl, ba0⟩; have Ba0 := bt b0 ba0))
  have bb8 := Ba3
  have HL : Hid (xa3.heap[L]? = _) := keep bb8 HL.out
  have HM : Hid (xa3.heap[M]? = _) := keep bb8 HM.out
  have HP : Hid (xa3.heap[P]? = _) := keep bb8 HP.out
  have HX : Hid (xa3.heap[X]? = _) := keep bb8 HX.out
  have HY : Hid (xa3.heap[Y]? = _) := keep bb8 HY.out
  have SX := SX.below bb8
  have SY := SY.below bb8
  have BB : Below B0 w xa3 := below_up BB LE bb8
  have LE : B0 ≤ xa3.heap.size := Nat.le_trans LE bb8.size
  have lLu : Hid (L < xa3.heap.size) := lt_of_block HL.out
  have lMu : Hid (M < xa3.heap.size) := lt_of_block HM.out
  have lPu : Hid (P < xa3.heap.size) := lt_of_block HP.out
  have lXu : Hid (X < xa3.heap.size) := lt_of_block HX.out
  have lYu : Hid (Y < xa3.heap.size) := lt_of_block HY.out
  have LEu : Hid (B0 ≤ xa3.heap.size) := LE
  clear bb8
  obtain ⟨L1, L2, L3, L4, L5⟩ := five_cells HL.out
  obtain ⟨M1, M2, M3, M4, M5⟩ := five_cells HM.out
  obtain ⟨P1, P2, P3, P4, P5⟩ := five_cells HP.out
  obtain ⟨X1, X2, X3, X4, X5⟩ := five_cells HX.out
  obtain ⟨Y1, Y2, Y3, Y4, Y5⟩ := five_cells HY.out
  clear FC
  cases r
  · clear HRR HES HK HNl HNm HNp
    go_wp2_with (fail)
    go_ret
    exact ⟨rfl, BB⟩
  have HR : Hid (rightL l = true ∧ l.sent.length ≤ 8) := ⟨HRR.out, (rightL_iff.1 HRR.out).2.2.2.2.2.2.2.2⟩
  obtain ⟨sd, hsd⟩ : ∃ q, sendL l x = q := ⟨_, rfl⟩
  obtain ⟨il, hil⟩ : ∃ q, inL l p = q := ⟨_, rfl⟩
  obtain ⟨iw, hiw⟩ : ∃ q, inW l p = q := ⟨_, rfl⟩
  obtain ⟨ns, hns⟩ : ∃ q, sd.sent.length = q := ⟨_, rfl⟩
  obtain ⟨ni, hni⟩ : ∃ q, il.sent.length = q := ⟨_, rfl⟩
  obtain ⟨nt, hnt⟩ : ∃ q, iw.length = q := ⟨_, rfl⟩
  have HBD : Hid (ns ≤ 1000 ∧ ni ≤ 1000 ∧ nt ≤ 1000) := by rw [← hns, ← hni, ← hnt, ← hsd, ← hil, ← hiw]; exact ⟨(tells_len (x := x) (p := p) HR.out.2).1, (tells_len (x := x) (p := p) HR.out.2).2, Nat.le_trans (inW_len l p) (by rw [HNp.out]; exact HK.out.2.2)⟩
  have HNS : Hid (sd.sent.length = ns) := hns
  have HNI : Hid (il.sent.length = ni) := hni
  have HNT : Hid (iw.length = nt) := hnt
  have HS : Hid (sendL l x = sd) := hsd
  have HI : Hid (inL l p = il) := hil
  have HW : Hid (inW l p = iw) := hiw
  clear hns hni hnt hsd hil hiw HRR
  have SE : Hid (∃ q, sendE l = q) := ⟨_, rfl⟩
  obtain ⟨se, hse⟩ := SE.out
  have HSE : Hid (sendE l = se) := hse
  clear hse SE
  have c15 := send_any _ l x xa3 HR.out.2 ⟨_, rfl, OLDl.out _ BB⟩
  rw [HS.out, HSE.out] at c15
  go_upto_region 16 with (go_at_call 17; go_must (refine (c15).mono ?_); rintro e w5 ⟨v5, rfl, ⟨vs5, rfl, sC, nC⟩, b5⟩; clear L1 L2 L3 L4 L5 M1 M2 M3 M4 M5 P1 P2 P3 P4 P5 X1 X2 X3 X4 X5 Y1 Y2 Y3 Y4 Y5; obtain ⟨L1, L2, L3, L4, L5⟩ := five_cells (keep (b5) HL.out); obtain ⟨M1, M2, M3, M4, M5⟩ := five_cells (keep (b5) HM.out); obtain ⟨P1, P2, P3, P4, P5⟩ := five_cells (keep (b5) HP.out); obtain ⟨X1, X2, X3, X4, X5⟩ := five_cells (keep (b5) HX.out); obtain ⟨Y1, Y2, Y3, Y4, Y5⟩ := five_cells (keep (b5) HY.out); obtain ⟨g5, c5, rfl⟩ := slice_of (n := ns) sC HNS.out)
  clear c15
  clear L1 L2 L3 L4 L5 M1 M2 M3 M4 M5 P1 P2 P3 P4 P5 X1 X2 X3 X4 X5 Y1 Y2 Y3 Y4 Y5
  obtain ⟨C, hC⟩ : ∃ n, w5.heap.size = n := ⟨_, rfl⟩
  have hbC := box_below w5 (.cells #[.int .i64 sd.own, .int .i64 sd.other, .int .i64 sd.first, .slice g5 ns c5, .int .i64 sd.next] 24)
  have HC0 := heap_new w5 (.cells #[.int .i64 sd.own, .int .i64 sd.other, .int .i64 sd.first, .slice g5 ns c5, .int .i64 sd.next] 24)
  obtain ⟨u9, hu9⟩ : ∃ u, w5.alloc (.cells #[.int .i64 sd.own, .int .i64 sd.other, .int .i64 sd.first, .slice g5 ns c5, .int .i64 sd.next] 24) = u := ⟨_, rfl⟩
  rw [hu9] at hbC HC0
  rw [hC] at HC0 ⊢
  rw [hu9]
  have bb9 := bt (b5) hbC
  have HL : Hid (u9.heap[L]? = _) := keep bb9 HL.out
  have HM : Hid (u9.heap[M]? = _) := keep bb9 HM.out
  have HP : Hid (u9.heap[P]? = _) := keep bb9 HP.out
  have HX : Hid (u9.heap[X]? = _) := keep bb9 HX.out
  have HY : Hid (u9.heap[Y]? = _) := keep bb9 HY.out
  have SX := SX.below bb9
  have SY := SY.below bb9
  have SC := sC.below hbC
  have NC := nC
  have qCL : Hid (L < xa3.heap.size) := lLu
  have qCM : Hid (M < xa3.heap.size) := lMu
  have qCP : Hid (P < xa3.heap.size) := lPu
  have qCX : Hid (X < xa3.heap.size) := lXu
  have qCY : Hid (Y < xa3.heap.size) := lYu
  have HC : Hid (u9.heap[C]? = _) := HC0
  have BB : Below B0 w u9 := below_up BB LE bb9
  have LE : B0 ≤ u9.heap.size := Nat.le_trans LE bb9.size
  have lLC : Hid (L < C) := (by have := lLu.out; have := (b5).size; omega : L < C)
  have lMC : Hid (M < C) := (by have := lMu.out; have := (b5).size; omega : M < C)
  have lPC : Hid (P < C) := (by have := lPu.out; have := (b5).size; omega : P < C)
  have lXC : Hid (X < C) := (by have := lXu.out; have := (b5).size; omega : X < C)
  have lYC : Hid (Y < C) := (by have := lYu.out; have := (b5).size; omega : Y < C)
  have zC : Hid (B0 ≤ C) := (by rw [← hC]; exact Nat.le_trans LEu.out (b5).size : B0 ≤ C)
  have lLu : Hid (L < u9.heap.size) := lt_of_block HL.out
  have lMu : Hid (M < u9.heap.size) := lt_of_block HM.out
  have lPu : Hid (P < u9.heap.size) := lt_of_block HP.out
  have lXu : Hid (X < u9.heap.size) := lt_of_block HX.out
  have lYu : Hid (Y < u9.heap.size) := lt_of_block HY.out
  have lCu : Hid (C < u9.heap.size) := lt_of_block HC.out
  have LEu : Hid (B0 ≤ u9.heap.size) := LE
  clear hu9 hbC HC0 hC bb9
  obtain ⟨L1, L2, L3, L4, L5⟩ := five_cells HL.out
  obtain ⟨M1, M2, M3, M4, M5⟩ := five_cells HM.out
  obtain ⟨P1, P2, P3, P4, P5⟩ := five_cells HP.out
  obtain ⟨X1, X2, X3, X4, X5⟩ := five_cells HX.out
  obtain ⟨Y1, Y2, Y3, Y4, Y5⟩ := five_cells HY.out
  obtain ⟨C1, C2, C3, C4, C5⟩ := five_cells HC.out
  have c16 := rsendL_any _ l x u9 (Nat.le_trans HR.out.2 (by decide)) ⟨_, rfl, OLDl.out _ BB⟩
  rw [HS.out, HSE.out] at c16
  go_upto_region 17 with (go_at_call 18; go_must (refine (c16).mono ?_); rintro e w6 ⟨v6, rfl, ⟨vs6, rfl, sD⟩, b6⟩; clear L1 L2 L3 L4 L5 M1 M2 M3 M4 M5 P1 P2 P3 P4 P5 X1 X2 X3 X4 X5 Y1 Y2 Y3 Y4 Y5 C1 C2 C3 C4 C5; obtain ⟨L1, L2, L3, L4, L5⟩ := five_cells (keep (b6) HL.out); obtain ⟨M1, M2, M3, M4, M5⟩ := five_cells (keep (b6) HM.out); obtain ⟨P1, P2, P3, P4, P5⟩ := five_cells (keep (b6) HP.out); obtain ⟨X1, X2, X3, X4, X5⟩ := five_cells (keep (b6) HX.out); obtain ⟨Y1, Y2, Y3, Y4, Y5⟩ := five_cells (keep (b6) HY.out); obtain ⟨C1, C2, C3, C4, C5⟩ := five_cells (keep (b6) HC.out); obtain ⟨g6, c6, rfl⟩ := slice_of (n := ns) sD HNS.out; have nD := True.intro)
  clear c16
  clear L1 L2 L3 L4 L5 M1 M2 M3 M4 M5 P1 P2 P3 P4 P5 X1 X2 X3 X4 X5 Y1 Y2 Y3 Y4 Y5 C1 C2 C3 C4 C5
  obtain ⟨D, hD⟩ : ∃ n, w6.heap.size = n := ⟨_, rfl⟩
  have hbD := box_below w6 (.cells #[.int .i64 sd.own, .int .i64 sd.other, .int .i64 sd.first, .slice g6 ns c6, .int .i64 sd.next] 24)
  have HD0 := heap_new w6 (.cells #[.int .i64 sd.own, .int .i64 sd.other, .int .i64 sd.first, .slice g6 ns c6, .int .i64 sd.next] 24)
  obtain ⟨u10, hu10⟩ : ∃ u, w6.alloc (.cells #[.int .i64 sd.own, .int .i64 sd.other, .int .i64 sd.first, .slice g6 ns c6, .int .i64 sd.next] 24) = u := ⟨_, rfl⟩
  rw [hu10] at hbD HD0
  rw [hD] at HD0 ⊢
  rw [hu10]
  have bb10 := bt (b6) hbD
  have HL : Hid (u10.heap[L]? = _) := keep bb10 HL.out
  have HM : Hid (u10.heap[M]? = _) := keep bb10 HM.out
  have HP : Hid (u10.heap[P]? = _) := keep bb10 HP.out
  have HX : Hid (u10.heap[X]? = _) := keep bb10 HX.out
  have HY : Hid (u10.heap[Y]? = _) := keep bb10 HY.out
  have HC : Hid (u10.heap[C]? = _) := keep bb10 HC.out
  have SX := SX.below bb10
  have SY := SY.below bb10
  have SC := SC.below bb10
  have SD := sD.below hbD
  have ND := nD
  have qDL : Hid (L < u9.heap.size) := lLu
  have qDM : Hid (M < u9.heap.size) := lMu
  have qDP : Hid (P < u9.heap.size) := lPu
  have qDX : Hid (X < u9.heap.size) := lXu
  have qDY : Hid (Y < u9.heap.size) := lYu
  have qDC : Hid (C < u9.heap.size) := lCu
  have HD : Hid (u10.heap[D]? = _) := HD0
  have BB : Below B0 w u10 := below_up BB LE bb10
  have LE : B0 ≤ u10.heap.size := Nat.le_trans LE bb10.size
  have lLD : Hid (L < D) := (by have := lLu.out; have := (b6).size; omega : L < D)
  have lMD : Hid (M < D) := (by have := lMu.out; have := (b6).size; omega : M < D)
  have lPD : Hid (P < D) := (by have := lPu.out; have := (b6).size; omega : P < D)
  have lXD : Hid (X < D) := (by have := lXu.out; have := (b6).size; omega : X < D)
  have lYD : Hid (Y < D) := (by have := lYu.out; have := (b6).size; omega : Y < D)
  have lCD : Hid (C < D) := (by have := lCu.out; have := (b6).size; omega : C < D)
  have zD : Hid (B0 ≤ D) := (by rw [← hD]; exact Nat.le_trans LEu.out (b6).size : B0 ≤ D)
  have lLu : Hid (L < u10.heap.size) := lt_of_block HL.out
  have lMu : Hid (M < u10.heap.size) := lt_of_block HM.out
  have lPu : Hid (P < u10.heap.size) := lt_of_block HP.out
  have lXu : Hid (X < u10.heap.size) := lt_of_block HX.out
  have lYu : Hid (Y < u10.heap.size) := lt_of_block HY.out
  have lCu : Hid (C < u10.heap.size) := lt_of_block HC.out
  have lDu : Hid (D < u10.heap.size) := lt_of_block HD.out
  have LEu : Hid (B0 ≤ u10.heap.size) := LE
  clear hu10 hbD HD0 hD bb10
  obtain ⟨L1, L2, L3, L4, L5⟩ := five_cells HL.out
  obtain ⟨M1, M2, M3, M4, M5⟩ := five_cells HM.out
  obtain ⟨P1, P2, P3, P4, P5⟩ := five_cells HP.out
  obtain ⟨X1, X2, X3, X4, X5⟩ := five_cells HX.out
  obtain ⟨Y1, Y2, Y3, Y4, Y5⟩ := five_cells HY.out
  obtain ⟨C1, C2, C3, C4, C5⟩ := five_cells HC.out
  obtain ⟨D1, D2, D3, D4, D5⟩ := five_cells HD.out
  have c17 := inl_any _ _ l p u10 HR.out.2 (by rw [HNp.out]; exact HK.out.2.2) (tells_right HR.out.1).1 (tells_right HR.out.1).2.1 (tells_right HR.out.1).2.2.1 (tells_right HR.out.1).2.2.2 ⟨_, rfl, OLDl.out _ BB⟩ ⟨_, rfl, OLDp.out _ BB⟩
  rw [HI.out, HW.out] at c17
  go_upto_region 18 with (go_at_call 19; go_must (refine (c17).mono ?_); rintro e w7 ⟨v7, vt7, rfl, ⟨vs7, rfl, sE, nE⟩, sT, nT, b7⟩; clear L1 L2 L3 L4 L5 M1 M2 M3 M4 M5 P1 P2 P3 P4 P5 X1 X2 X3 X4 X5 Y1 Y2 Y3 Y4 Y5 C1 C2 C3 C4 C5 D1 D2 D3 D4 D5; obtain ⟨L1, L2, L3, L4, L5⟩ := five_cells (keep (b7) HL.out); obtain ⟨M1, M2, M3, M4, M5⟩ := five_cells (keep (b7) HM.out); obtain ⟨P1, P2, P3, P4, P5⟩ := five_cells (keep (b7) HP.out); obtain ⟨X1, X2, X3, X4, X5⟩ := five_cells (keep (b7) HX.out); obtain ⟨Y1, Y2, Y3, Y4, Y5⟩ := five_cells (keep (b7) HY.out); obtain ⟨C1, C2, C3, C4, C5⟩ := five_cells (keep (b7) HC.out); obtain ⟨D1, D2, D3, D4, D5⟩ := five_cells (keep (b7) HD.out); obtain ⟨g7, c7, rfl⟩ := slice_of (n := ni) sE HNI.out; obtain ⟨g8, c8, rfl⟩ := slice_of (n := nt) sT HNT.out)
  clear c17
  clear L1 L2 L3 L4 L5 M1 M2 M3 M4 M5 P1 P2 P3 P4 P5 X1 X2 X3 X4 X5 Y1 Y2 Y3 Y4 Y5 C1 C2 C3 C4 C5 D1 D2 D3 D4 D5
  obtain ⟨E, hE⟩ : ∃ n, w7.heap.size = n := ⟨_, rfl⟩
  have hbE := box_below w7 (.cells #[.int .i64 il.own, .int .i64 il.other, .int .i64 il.first, .slice g7 ni c7, .int .i64 il.next] 24)
  have HE0 := heap_new w7 (.cells #[.int .i64 il.own, .int .i64 il.other, .int .i64 il.first, .slice g7 ni c7, .int .i64 il.next] 24)
  obtain ⟨u11, hu11⟩ : ∃ u, w7.alloc (.cells #[.int .i64 il.own, .int .i64 il.other, .int .i64 il.first, .slice g7 ni c7, .int .i64 il.next] 24) = u := ⟨_, rfl⟩
  rw [hu11] at hbE HE0
  rw [hE] at HE0 ⊢
  rw [hu11]
  have bb11 := bt (b7) hbE
  have HL : Hid (u11.heap[L]? = _) := keep bb11 HL.out
  have HM : Hid (u11.heap[M]? = _) := keep bb11 HM.out
  have HP : Hid (u11.heap[P]? = _) := keep bb11 HP.out
  have HX : Hid (u11.heap[X]? = _) := keep bb11 HX.out
  have HY : Hid (u11.heap[Y]? = _) := keep bb11 HY.out
  have HC : Hid (u11.heap[C]? = _) := keep bb11 HC.out
  have HD : Hid (u11.heap[D]? = _) := keep bb11 HD.out
  have SX := SX.below bb11
  have SY := SY.below bb11
  have SC := SC.below bb11
  have SD := SD.below bb11
  have SE := sE.below hbE
  have NE := nE
  have qEL : Hid (L < u10.heap.size) := lLu
  have qEM : Hid (M < u10.heap.size) := lMu
  have qEP : Hid (P < u10.heap.size) := lPu
  have qEX : Hid (X < u10.heap.size) := lXu
  have qEY : Hid (Y < u10.heap.size) := lYu
  have qEC : Hid (C < u10.heap.size) := lCu
  have qED : Hid (D < u10.heap.size) := lDu
  have ST := sT.below hbE
  have NT := nT
  have qTL : Hid (L < u10.heap.size) := lLu
  have qTM : Hid (M < u10.heap.size) := lMu
  have qTP : Hid (P < u10.heap.size) := lPu
  have qTX : Hid (X < u10.heap.size) := lXu
  have qTY : Hid (Y < u10.heap.size) := lYu
  have qTC : Hid (C < u10.heap.size) := lCu
  have qTD : Hid (D < u10.heap.size) := lDu
  have HE : Hid (u11.heap[E]? = _) := HE0
  have BB : Below B0 w u11 := below_up BB LE bb11
  have LE : B0 ≤ u11.heap.size := Nat.le_trans LE bb11.size
  have lLE : Hid (L < E) := (by have := lLu.out; have := (b7).size; omega : L < E)
  have lME : Hid (M < E) := (by have := lMu.out; have := (b7).size; omega : M < E)
  have lPE : Hid (P < E) := (by have := lPu.out; have := (b7).size; omega : P < E)
  have lXE : Hid (X < E) := (by have := lXu.out; have := (b7).size; omega : X < E)
  have lYE : Hid (Y < E) := (by have := lYu.out; have := (b7).size; omega : Y < E)
  have lCE : Hid (C < E) := (by have := lCu.out; have := (b7).size; omega : C < E)
  have lDE : Hid (D < E) := (by have := lDu.out; have := (b7).size; omega : D < E)
  have zE : Hid (B0 ≤ E) := (by rw [← hE]; exact Nat.le_trans LEu.out (b7).size : B0 ≤ E)
  have lLu : Hid (L < u11.heap.size) := lt_of_block HL.out
  have lMu : Hid (M < u11.heap.size) := lt_of_block HM.out
  have lPu : Hid (P < u11.heap.size) := lt_of_block HP.out
  have lXu : Hid (X < u11.heap.size) := lt_of_block HX.out
  have lYu : Hid (Y < u11.heap.size) := lt_of_block HY.out
  have lCu : Hid (C < u11.heap.size) := lt_of_block HC.out
  have lDu : Hid (D < u11.heap.size) := lt_of_block HD.out
  have lEu : Hid (E < u11.heap.size) := lt_of_block HE.out
  have LEu : Hid (B0 ≤ u11.heap.size) := LE
  clear hu11 hbE HE0 hE bb11
  obtain ⟨L1, L2, L3, L4, L5⟩ := five_cells HL.out
  obtain ⟨M1, M2, M3, M4, M5⟩ := five_cells HM.out
  obtain ⟨P1, P2, P3, P4, P5⟩ := five_cells HP.out
  obtain ⟨X1, X2, X3, X4, X5⟩ := five_cells HX.out
  obtain ⟨Y1, Y2, Y3, Y4, Y5⟩ := five_cells HY.out
  obtain ⟨C1, C2, C3, C4, C5⟩ := five_cells HC.out
  obtain ⟨D1, D2, D3, D4, D5⟩ := five_cells HD.out
  obtain ⟨E1, E2, E3, E4, E5⟩ := five_cells HE.out
  have c18 := rin_any _ _ l p u11 HR.out.1 (by rw [HNp.out]; exact HK.out.2.2) ⟨_, rfl, OLDl.out _ BB⟩ ⟨_, rfl, OLDp.out _ BB⟩
  rw [HI.out, HW.out] at c18
  go_upto_region 19 with (go_at_call 20; go_must (refine (c18).mono ?_); rintro e w8 ⟨v8, vt8, rfl, ⟨vs8, rfl, sG⟩, sU, b8⟩; clear L1 L2 L3 L4 L5 M1 M2 M3 M4 M5 P1 P2 P3 P4 P5 X1 X2 X3 X4 X5 Y1 Y2 Y3 Y4 Y5 C1 C2 C3 C4 C5 D1 D2 D3 D4 D5 E1 E2 E3 E4 E5; obtain ⟨L1, L2, L3, L4, L5⟩ := five_cells (keep (b8) HL.out); obtain ⟨M1, M2, M3, M4, M5⟩ := five_cells (keep (b8) HM.out); obtain ⟨P1, P2, P3, P4, P5⟩ := five_cells (keep (b8) HP.out); obtain ⟨X1, X2, X3, X4, X5⟩ := five_cells (keep (b8) HX.out); obtain ⟨Y1, Y2, Y3, Y4, Y5⟩ := five_cells (keep (b8) HY.out); obtain ⟨C1, C2, C3, C4, C5⟩ := five_cells (keep (b8) HC.out); obtain ⟨D1, D2, D3, D4, D5⟩ := five_cells (keep (b8) HD.out); obtain ⟨E1, E2, E3, E4, E5⟩ := five_cells (keep (b8) HE.out); obtain ⟨g9, c9, rfl⟩ := slice_of (n := ni) sG HNI.out; obtain ⟨g10, c10, rfl⟩ := slice_of (n := nt) sU HNT.out; have nG := True.intro; have nU := True.intro)
  clear c18
  clear L1 L2 L3 L4 L5 M1 M2 M3 M4 M5 P1 P2 P3 P4 P5 X1 X2 X3 X4 X5 Y1 Y2 Y3 Y4 Y5 C1 C2 C3 C4 C5 D1 D2 D3 D4 D5 E1 E2 E3 E4 E5
  obtain ⟨G, hG⟩ : ∃ n, w8.heap.size = n := ⟨_, rfl⟩
  have hbG := box_below w8 (.cells #[.int .i64 il.own, .int .i64 il.other, .int .i64 il.first, .slice g9 ni c9, .int .i64 il.next] 24)
  have HG0 := heap_new w8 (.cells #[.int .i64 il.own, .int .i64 il.other, .int .i64 il.first, .slice g9 ni c9, .int .i64 il.next] 24)
  obtain ⟨u12, hu12⟩ : ∃ u, w8.alloc (.cells #[.int .i64 il.own, .int .i64 il.other, .int .i64 il.first, .slice g9 ni c9, .int .i64 il.next] 24) = u := ⟨_, rfl⟩
  rw [hu12] at hbG HG0
  rw [hG] at HG0 ⊢
  rw [hu12]
  have bb12 := bt (b8) hbG
  have HL : Hid (u12.heap[L]? = _) := keep bb12 HL.out
  have HM : Hid (u12.heap[M]? = _) := keep bb12 HM.out
  have HP : Hid (u12.heap[P]? = _) := keep bb12 HP.out
  have HX : Hid (u12.heap[X]? = _) := keep bb12 HX.out
  have HY : Hid (u12.heap[Y]? = _) := keep bb12 HY.out
  have HC : Hid (u12.heap[C]? = _) := keep bb12 HC.out
  have HD : Hid (u12.heap[D]? = _) := keep bb12 HD.out
  have HE : Hid (u12.heap[E]? = _) := keep bb12 HE.out
  have SX := SX.below bb12
  have SY := SY.below bb12
  have SC := SC.below bb12
  have SD := SD.below bb12
  have SE := SE.below bb12
  have ST := ST.below bb12
  have SG := sG.below hbG
  have NG := nG
  have qGL : Hid (L < u11.heap.size) := lLu
  have qGM : Hid (M < u11.heap.size) := lMu
  have qGP : Hid (P < u11.heap.size) := lPu
  have qGX : Hid (X < u11.heap.size) := lXu
  have qGY : Hid (Y < u11.heap.size) := lYu
  have qGC : Hid (C < u11.heap.size) := lCu
  have qGD : Hid (D < u11.heap.size) := lDu
  have qGE : Hid (E < u11.heap.size) := lEu
  have SU := sU.below hbG
  have NU := nU
  have qUL : Hid (L < u11.heap.size) := lLu
  have qUM : Hid (M < u11.heap.size) := lMu
  have qUP : Hid (P < u11.heap.size) := lPu
  have qUX : Hid (X < u11.heap.size) := lXu
  have qUY : Hid (Y < u11.heap.size) := lYu
  have qUC : Hid (C < u11.heap.size) := lCu
  have qUD : Hid (D < u11.heap.size) := lDu
  have qUE : Hid (E < u11.heap.size) := lEu
  have HG : Hid (u12.heap[G]? = _) := HG0
  have BB : Below B0 w u12 := below_up BB LE bb12
  have LE : B0 ≤ u12.heap.size := Nat.le_trans LE bb12.size
  have lLG : Hid (L < G) := (by have := lLu.out; have := (b8).size; omega : L < G)
  have lMG : Hid (M < G) := (by have := lMu.out; have := (b8).size; omega : M < G)
  have lPG : Hid (P < G) := (by have := lPu.out; have := (b8).size; omega : P < G)
  have lXG : Hid (X < G) := (by have := lXu.out; have := (b8).size; omega : X < G)
  have lYG : Hid (Y < G) := (by have := lYu.out; have := (b8).size; omega : Y < G)
  have lCG : Hid (C < G) := (by have := lCu.out; have := (b8).size; omega : C < G)
  have lDG : Hid (D < G) := (by have := lDu.out; have := (b8).size; omega : D < G)
  have lEG : Hid (E < G) := (by have := lEu.out; have := (b8).size; omega : E < G)
  have zG : Hid (B0 ≤ G) := (by rw [← hG]; exact Nat.le_trans LEu.out (b8).size : B0 ≤ G)
  have lLu : Hid (L < u12.heap.size) := lt_of_block HL.out
  have lMu : Hid (M < u12.heap.size) := lt_of_block HM.out
  have lPu : Hid (P < u12.heap.size) := lt_of_block HP.out
  have lXu : Hid (X < u12.heap.size) := lt_of_block HX.out
  have lYu : Hid (Y < u12.heap.size) := lt_of_block HY.out
  have lCu : Hid (C < u12.heap.size) := lt_of_block HC.out
  have lDu : Hid (D < u12.heap.size) := lt_of_block HD.out
  have lEu : Hid (E < u12.heap.size) := lt_of_block HE.out
  have lGu : Hid (G < u12.heap.size) := lt_of_block HG.out
  have LEu : Hid (B0 ≤ u12.heap.size) := LE
  clear hu12 hbG HG0 hG bb12
  obtain ⟨L1, L2, L3, L4, L5⟩ := five_cells HL.out
  obtain ⟨M1, M2, M3, M4, M5⟩ := five_cells HM.out
  obtain ⟨P1, P2, P3, P4, P5⟩ := five_cells HP.out
  obtain ⟨X1, X2, X3, X4, X5⟩ := five_cells HX.out
  obtain ⟨Y1, Y2, Y3, Y4, Y5⟩ := five_cells HY.out
  obtain ⟨C1, C2, C3, C4, C5⟩ := five_cells HC.out
  obtain ⟨D1, D2, D3, D4, D5⟩ := five_cells HD.out
  obtain ⟨E1, E2, E3, E4, E5⟩ := five_cells HE.out
  obtain ⟨G1, G2, G3, G4, G5⟩ := five_cells HG.out
  have Q1 := fun (u : World) (h : Below u12.heap.size u12 u) => rsameK_any _ _ sd sd u (by rw [HNS.out]; exact HBD.out.1) (by rw [HNS.out]; exact HBD.out.1) ⟨_, rfl, SC.below h⟩ ⟨_, rfl, SD.below h⟩
  rw [sameK_refl] at Q1
  have Q2 := fun (u : World) (h : Below u12.heap.size u12 u) => rsameK_any _ _ il il u (by rw [HNI.out]; exact HBD.out.2.1) (by rw [HNI.out]; exact HBD.out.2.1) ⟨_, rfl, SE.below h⟩ ⟨_, rfl, SG.below h⟩
  rw [sameK_refl] at Q2
  have Q3 := fun (u : World) (h : Below u12.heap.size u12 u) => ints_any _ _ iw iw u (by rw [HNT.out]; exact Nat.le_trans HBD.out.2.2 (by decide)) (by rw [HNT.out]; exact Nat.le_trans HBD.out.2.2 (by decide)) (ST.below h) (SU.below h)
  rw [decide_eq_true rfl] at Q3
  have Q4 := fun (u : World) (h : Below u12.heap.size u12 u) => out_any _ l u (Nat.le_trans HR.out.2 (by decide)) ⟨_, rfl, OLDl.out _ (below_up BB LE h)⟩
  have Q5 := fun (u : World) (h : Below u12.heap.size u12 u) => rout_any _ l u (Nat.le_trans HR.out.2 (by decide)) ⟨_, rfl, OLDl.out _ (below_up BB LE h)⟩
  have Q6 := fun (u : World) (v v2 : Value) (h : SeesP u v (outL l)) (h2 : SeesP u v2 (outL l)) => psamep_any v v2 (outL l) (outL l) u (tells_out HR.out.2) (tells_out HR.out.2) h h2
  rw [samePk_refl] at Q6
  clear SX SY
  have FC : Hid (∀ u : World, Below u12.heap.size u12 u → u.cell? ⟨L, 0, none⟩ = some (.int .i64 l.own) ∧ u.cell? ⟨L, 1, none⟩ = some (.int .i64 l.other) ∧ u.cell? ⟨L, 2, none⟩ = some (.int .i64 l.first) ∧ u.cell? ⟨L, 3, none⟩ = some (.slice ol nl cl) ∧ u.cell? ⟨L, 4, none⟩ = some (.int .i64 l.next) ∧ u.cell? ⟨C, 0, none⟩ = some (.int .i64 sd.own) ∧ u.cell? ⟨C, 1, none⟩ = some (.int .i64 sd.other) ∧ u.cell? ⟨C, 2, none⟩ = some (.int .i64 sd.first) ∧ u.cell? ⟨C, 3, none⟩ = some (.slice g5 ns c5) ∧ u.cell? ⟨C, 4, none⟩ = some (.int .i64 sd.next) ∧ u.cell? ⟨D, 0, none⟩ = some (.int .i64 sd.own) ∧ u.cell? ⟨D, 1, none⟩ = some (.int .i64 sd.other) ∧ u.cell? ⟨D, 2, none⟩ = some (.int .i64 sd.first) ∧ u.cell? ⟨D, 3, none⟩ = some (.slice g6 ns c6) ∧ u.cell? ⟨D, 4, none⟩ = some (.int .i64 sd.next) ∧ u.cell? ⟨E, 0, none⟩ = some (.int .i64 il.own) ∧ u.cell? ⟨E, 1, none⟩ = some (.int .i64 il.other) ∧ u.cell? ⟨E, 2, none⟩ = some (.int .i64 il.first) ∧ u.cell? ⟨E, 3, none⟩ = some (.slice g7 ni c7) ∧ u.cell? ⟨E, 4, none⟩ = some (.int .i64 il.next) ∧ u.cell? ⟨G, 0, none⟩ = some (.int .i64 il.own) ∧ u.cell? ⟨G, 1, none⟩ = some (.int .i64 il.other) ∧ u.cell? ⟨G, 2, none⟩ = some (.int .i64 il.first) ∧ u.cell? ⟨G, 3, none⟩ = some (.slice g9 ni c9) ∧ u.cell? ⟨G, 4, none⟩ = some (.int .i64 il.next)) := by
    intro u hu
    have fL := five_cells (keep hu HL.out)
    have fC := five_cells (keep hu HC.out)
    have fD := five_cells (keep hu HD.out)
    have fE := five_cells (keep hu HE.out)
    have fG := five_cells (keep hu HG.out)
    exact ⟨fL.1, fL.2.1, fL.2.2.1, fL.2.2.2.1, fL.2.2.2.2, fC.1, fC.2.1, fC.2.2.1, fC.2.2.2.1, fC.2.2.2.2, fD.1, fD.2.1, fD.2.2.1, fD.2.2.2.1, fD.2.2.2.2, fE.1, fE.2.1, fE.2.2.1, fE.2.2.2.1, fE.2.2.2.2, fG.1, fG.2.1, fG.2.2.1, fG.2.2.2.1, fG.2.2.2.2⟩
  clear L1 L2 L3 L4 L5 M1 M2 M3 M4 M5 P1 P2 P3 P4 P5 X1 X2 X3 X4 X5 Y1 Y2 Y3 Y4 Y5 C1 C2 C3 C4 C5 D1 D2 D3 D4 D5 E1 E2 E3 E4 E5 G1 G2 G3 G4 G5
  have b0 : Below u12.heap.size u12 u12.drew := (Below.refl _ u12).drew
  go_region_held3 (fun u => u.cell? ⟨L, 0, none⟩ = some (.int .i64 l.own) ∧ u.cell? ⟨L, 1, none⟩ = some (.int .i64 l.other) ∧ u.cell? ⟨L, 2, none⟩ = some (.int .i64 l.first) ∧ u.cell? ⟨L, 3, none⟩ = some (.slice ol nl cl) ∧ u.cell? ⟨L, 4, none⟩ = some (.int .i64 l.next) ∧ u.cell? ⟨C, 0, none⟩ = some (.int .i64 sd.own) ∧ u.cell? ⟨C, 1, none⟩ = some (.int .i64 sd.other) ∧ u.cell? ⟨C, 2, none⟩ = some (.int .i64 sd.first) ∧ u.cell? ⟨C, 3, none⟩ = some (.slice g5 ns c5) ∧ u.cell? ⟨C, 4, none⟩ = some (.int .i64 sd.next) ∧ u.cell? ⟨D, 0, none⟩ = some (.int .i64 sd.own) ∧ u.cell? ⟨D, 1, none⟩ = some (.int .i64 sd.other) ∧ u.cell? ⟨D, 2, none⟩ = some (.int .i64 sd.first) ∧ u.cell? ⟨D, 3, none⟩ = some (.slice g6 ns c6) ∧ u.cell? ⟨D, 4, none⟩ = some (.int .i64 sd.next) ∧ u.cell? ⟨E, 0, none⟩ = some (.int .i64 il.own) ∧ u.cell? ⟨E, 1, none⟩ = some (.int .i64 il.other) ∧ u.cell? ⟨E, 2, none⟩ = some (.int .i64 il.first) ∧ u.cell? ⟨E, 3, none⟩ = some (.slice g7 ni c7) ∧ u.cell? ⟨E, 4, none⟩ = some (.int .i64 il.next) ∧ u.cell? ⟨G, 0, none⟩ = some (.int .i64 il.own) ∧ u.cell? ⟨G, 1, none⟩ = some (.int .i64 il.other) ∧ u.cell? ⟨G, 2, none⟩ = some (.int .i64 il.first) ∧ u.cell? ⟨G, 3, none⟩ = some (.slice g9 ni c9) ∧ u.cell? ⟨G, 4, none⟩ = some (.int .i64 il.next)) (first | with_reducible exact FC.out _ Bc5 | with_reducible exact FC.out _ Bc4 | with_reducible exact FC.out _ Bc3 | with_reducible exact FC.out _ Bc2 | with_reducible exact FC.out _ Bc1 | with_reducible exact FC.out _ Bc0 | with_reducible exact FC.out _ b0) (first | (have _ := Bc4; go_at_call 22; refine (Q6 _ _ _ ⟨_, rfl, s22⟩ ⟨_, rfl, s21⟩).mono ?_; rintro e xc5 ⟨rfl, bc5⟩; have Bc5 := bt Bc4 bc5) | (have _ := Bc3; go_at_call 24; refine (Q5 _ Bc3).mono ?_; rintro e xc4 ⟨v21, rfl, ⟨vs21, rfl, s21⟩, bc4⟩; have Bc4 := bt Bc3 bc4; have s22 := s20.below bc4) | (have _ := Bc2; go_at_call 23; refine (Q4 _ Bc2).mono ?_; rintro e xc3 ⟨v20, rfl, ⟨vs20, rfl, s20, n20⟩, bc3⟩; have Bc3 := bt Bc2 bc3) | (have _ := Bc1; go_at_call 21; refine (Q3 _ Bc1).mono ?_; rintro e xc2 ⟨rfl, bc2⟩; have Bc2 := bt Bc1 bc2) | (have _ := Bc0; go_at_call 14; refine (Q2 _ Bc0).mono ?_; rintro e xc1 ⟨rfl, bc1⟩; have Bc1 := bt Bc0 bc1) | (go_at_call 14; refine (Q1 _ b0).mono ?_; rintro e xc0 ⟨rfl, bc0⟩; have Bc0 := bt b0 bc0))
  go_wp2_with (fail)
  go_ret
  exact ⟨rfl, below_up BB LE Bc5⟩
end Go.Proofs.Ytbhgffbmeaomkaa.Gr
