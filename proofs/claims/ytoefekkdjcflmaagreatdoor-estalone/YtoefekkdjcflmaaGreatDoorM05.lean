/- Parts of the proof. -/
import Derived.Laws.StructEq
import Derived.Test.YtoefekkdjcflmaaGreatDoorM04
namespace Go.Proofs.YtoefekkdjcflmaaGreatDoor.Qt
open Go.RowKit Go.Sort Go.Proofs.YtoefekkdjcflmaaGreatDoor.Qm Go.Proofs.YtoefekkdjcflmaaGreatDoor.Qt.Qm
theorem put3 {B D : Nat} {w a : World} (h : Below B w a) (hD : B ≤ D) (x y z : Value) : Below B w (((a.setCell ⟨D, 0, none⟩ x).setCell ⟨D, 1, none⟩ y).setCell ⟨D, 2, none⟩ z) :=
  ((h.setCell hD x).setCell hD y).setCell hD z
set_option maxHeartbeats 3000000 in
set_option maxRecDepth 20000 in
theorem turn_any (q v : Nat → Int) (w : World) (hG : Less w) :
    Calls Tryz.prog 64 #[.agg #[.int .i64 (q 0), .int .i64 (q 1), .int .i64 (q 2), .int .i64 (q 3)], .agg #[.int .i64 (v 0), .int .i64 (v 1), .int .i64 (v 2)]] w fun e w' =>
      e = .returned (.tuple #[.agg #[.int .i64 (tn q v 1), .int .i64 (tn q v 2), .int .i64 (tn q v 3)], .bool (tnB q v)]) ∧ Below w.heap.size w w' := by
  obtain ⟨W, hW⟩ : ∃ W, ((w.alloc (.cells #[.int .i64 (q 0), .int .i64 (q 1), .int .i64 (q 2), .int .i64 (q 3)] 26)).alloc (.cells #[.int .i64 (v 0), .int .i64 (v 1), .int .i64 (v 2)] 37)).alloc (.cells #[.int .i64 0, .int .i64 0, .int .i64 0] 37) = W := ⟨_, rfl⟩
  obtain ⟨g1, g2, g3⟩ := allocs3 w (.cells #[.int .i64 (q 0), .int .i64 (q 1), .int .i64 (q 2), .int .i64 (q 3)] 26) (.cells #[.int .i64 (v 0), .int .i64 (v 1), .int .i64 (v 2)] 37) (.cells #[.int .i64 0, .int .i64 0, .int .i64 0] 37)
  have bW := ball3 w (.cells #[.int .i64 (q 0), .int .i64 (q 1), .int .i64 (q 2), .int .i64 (q 3)] 26) (.cells #[.int .i64 (v 0), .int .i64 (v 1), .int .i64 (v 2)] 37) (.cells #[.int .i64 0, .int .i64 0, .int .i64 0] 37)
  rw [hW] at g1 g2 g3 bW
  have m1 : ∀ a, Less a → Calls Tryz.prog 62 #[.agg #[.int .i64 (q 0), .int .i64 (q 1), .int .i64 (q 2), .int .i64 (q 3)], .agg #[.int .i64 0, .int .i64 (v 0), .int .i64 (v 1), .int .i64 (v 2)]] a fun e w' =>
      e = .returned (.tuple #[.agg #[.int .i64 (qm q (vq 0 v) 0), .int .i64 (qm q (vq 0 v) 1), .int .i64 (qm q (vq 0 v) 2), .int .i64 (qm q (vq 0 v) 3)], .bool (anyB (qmB q (vq 0 v)) 4)]) ∧ Below a.heap.size a w' := fun a ha => qmul_any q (vq 0 v) a ha
  have m2 := fun a => turned_any q a
  have m3 : ∀ a, Less a → _ := fun a ha => qmul_any (qm q (vq 0 v)) (cj q) a ha
  unfold tn tnB
  obtain ⟨X, hX⟩ : ∃ X, anyB (qmB q (vq 0 v)) 4 = X := ⟨_, rfl⟩
  obtain ⟨Y, hY⟩ : ∃ Y, anyB (cjB q) 4 = Y := ⟨_, rfl⟩
  obtain ⟨Z, hZ⟩ : ∃ Z, anyB (qmB (qm q (vq 0 v)) (cj q)) 4 = Z := ⟨_, rfl⟩
  obtain ⟨r0, hr0⟩ : ∃ z, qm (qm q (vq 0 v)) (cj q) 0 = z := ⟨_, rfl⟩
  obtain ⟨r1, hr1⟩ : ∃ z, qm (qm q (vq 0 v)) (cj q) 1 = z := ⟨_, rfl⟩
  obtain ⟨r2, hr2⟩ : ∃ z, qm (qm q (vq 0 v)) (cj q) 2 = z := ⟨_, rfl⟩
  obtain ⟨r3, hr3⟩ : ∃ z, qm (qm q (vq 0 v)) (cj q) 3 = z := ⟨_, rfl⟩
  simp only [hZ, hr0, hr1, hr2, hr3] at m3
  rw [hX, hY, hZ, hr1, hr2, hr3]
  clear hZ hr0 hr1 hr2 hr3
  obtain ⟨s0, hs0⟩ : ∃ z, qm q (vq 0 v) 0 = z := ⟨_, rfl⟩
  obtain ⟨s1, hs1⟩ : ∃ z, qm q (vq 0 v) 1 = z := ⟨_, rfl⟩
  obtain ⟨s2, hs2⟩ : ∃ z, qm q (vq 0 v) 2 = z := ⟨_, rfl⟩
  obtain ⟨s3, hs3⟩ : ∃ z, qm q (vq 0 v) 3 = z := ⟨_, rfl⟩
  simp only [hX, hs0, hs1, hs2, hs3] at m1
  simp only [hs0, hs1, hs2, hs3] at m3
  clear hX hs0 hs1 hs2 hs3
  obtain ⟨t0, ht0⟩ : ∃ z, cj q 0 = z := ⟨_, rfl⟩
  obtain ⟨t1, ht1⟩ : ∃ z, cj q 1 = z := ⟨_, rfl⟩
  obtain ⟨t2, ht2⟩ : ∃ z, cj q 2 = z := ⟨_, rfl⟩
  obtain ⟨t3, ht3⟩ : ∃ z, cj q 3 = z := ⟨_, rfl⟩
  simp only [hY, ht0, ht1, ht2, ht3] at m2
  simp only [ht0, ht1, ht2, ht3] at m3
  clear hY ht0 ht1 ht2 ht3
  have hGW : Less W := hG.below bW
  have M1 := m1 W hGW
  rw [← hW] at M1
  have HW : Hid (_ = W) := hW
  clear hW m1 hG
  have K1 : Hid (∀ a, Below W.heap.size W a → _) := fun a ha => four_cells (keep ha g1)
  have K3 : Hid (∀ a, Below W.heap.size W a → _) := fun a ha => three_cells (keep ha g3)
  have ways : (X = true) ∨ (X = false ∧ Y = true) ∨ (X = false ∧ Y = false) := by cases X <;> cases Y <;> simp
  rcases ways with rfl | ⟨rfl, rfl⟩ | ⟨rfl, rfl⟩
  all_goals
    go_enter Tryz.func64, Tryz.ntmps64
    go_wp2_with (first | (go_at_call_of 62 (Value.int IntKind.i64 (v 0)); refine M1.mono ?_; rintro e wa ⟨rfl, ba⟩; rw [HW.out] at ba; have ba2 := ba.alloc ba.size (.cells #[.int .i64 s0, .int .i64 s1, .int .i64 s2, .int .i64 s3] 26); obtain ⟨a0, a1, a2, a3, _⟩ := K1.out _ ba2) | (go_at_call 108; refine (m2 _).mono ?_; rintro e wb ⟨rfl, bb⟩; have bb1 := bt ba2 bb; have bb2 := bb1.alloc bb1.size (.cells #[.int .i64 t0, .int .i64 t1, .int .i64 t2, .int .i64 t3] 26); obtain ⟨c0, c1, c2, c3, _⟩ := four_cells (heap_old (keep bb (heap_new wa (.cells #[.int .i64 s0, .int .i64 s1, .int .i64 s2, .int .i64 s3] 26))) (.cells #[.int .i64 t0, .int .i64 t1, .int .i64 t2, .int .i64 t3] 26))) | (go_at_call_of 62 (Value.int IntKind.i64 t1); refine (m3 _ (hGW.below bb2)).mono ?_; rintro e wc ⟨rfl, bc⟩; have bc1 := bt bb2 bc; have bc2 := bc1.alloc bc1.size (.cells #[.int .i64 r0, .int .i64 r1, .int .i64 r2, .int .i64 r3] 26); obtain ⟨d0, d1, d2, f0, f1, f2⟩ := K3.out _ bc2))
    refine bodyPost_ret (v := .tuple #[.agg #[.int .i64 r1, .int .i64 r2, .int .i64 r3], .bool _]) (by simp [results, Tryz.results64, go_sem, d0, d1, d2]; rfl) rfl ?_
    exact ⟨rfl, put3 (bt bW bc2) (by omega) _ _ _⟩
end Go.Proofs.YtoefekkdjcflmaaGreatDoor.Qt
namespace Go.Proofs.YtoefekkdjcflmaaGreatDoor
open Go.RowKit Qm
def lit (s a : Int) : Bool := decide (s * s ≤ a * 16777216)
end Go.Proofs.YtoefekkdjcflmaaGreatDoor
namespace Go.Proofs.YtoefekkdjcflmaaGreatDoor.Qt
open Go.RowKit Go.Sort Go.Proofs.YtoefekkdjcflmaaGreatDoor.Qm Go.Proofs.YtoefekkdjcflmaaGreatDoor.Qt.Qm
set_option maxHeartbeats 1000000 in
theorem rright_any (p : Nat → Int) (w : World) :
    Calls Tryz.prog 27 #[.agg #[.int .i64 (p 0), .int .i64 (p 1), .int .i64 (p 2), .int .i64 (p 3)]] w fun e w' => e = .returned (.bool (!anyB (fun k => ob (p k)) 4)) ∧ Below w.heap.size w w' := by
  have hP := Box4.of (p := p) (heap_new w (.cells #[.int .i64 (p 0), .int .i64 (p 1), .int .i64 (p 2), .int .i64 (p 3)] 26))
  have bW := ball1 w (.cells #[.int .i64 (p 0), .int .i64 (p 1), .int .i64 (p 2), .int .i64 (p 3)] 26)
  have HP : Hid _ := hP
  have HB : Hid _ := bW
  clear hP bW
  obtain ⟨R, hR⟩ : ∃ R, anyB (fun k => ob (p k)) 4 = R := ⟨_, rfl⟩
  have HR : Hid (anyB (fun k => ob (p k)) 4 = R) := hR
  rw [hR]
  clear hR
  go_enter Tryz.func27, Tryz.ntmps27
  go_wp2
  go_loop [3] (fun i => ∃ k : Nat, k ≤ 4 ∧ i = .int .i64 k ∧ Hid (anyB (fun j => ob (p j)) k = false)) (fun i => 4 - (intOf i).toNat)
  case atStart => exact ⟨0, Nat.zero_le _, rfl, rfl⟩
  case round =>
    obtain ⟨k, hk, rfl, hany⟩ := hrel
    by_cases hlt : k < 4
    · have c1 := HP.out k hlt
      have HN : Hid (anyB (fun j => ob (p j)) (k + 1) = (anyB (fun j => ob (p j)) k || ob (p k))) := rfl
      have far : Hid (ob (p k) = true → R = true) := by
        intro h
        rw [← HR.out]
        have h4 : k = 0 ∨ k = 1 ∨ k = 2 ∨ k = 3 := by omega
        rcases h4 with rfl | rfl | rfl | rfl <;> simp [anyB, h]
      obtain ⟨x, hx⟩ : ∃ x, p k = x := ⟨_, rfl⟩
      rw [hx] at c1 HN far
      clear hx
      have hin : ∀ a, Calls Tryz.prog 58 #[.int .i64 x] a fun e w' => e = .returned (.bool (!ob x)) ∧ w' = a := fun a => rin_any x a
      cases hb : ob x <;> simp only [hb, Bool.not_true, Bool.not_false] at hin
      · go_wp2_with (go_at_call 58; refine (hin _).mono ?_; rintro e wx ⟨rfl, rfl⟩)
        go_round
        case rel => exact ⟨k + 1, by omega, by go_num, by show _ = false; rw [HN.out, hany.out, hb]; rfl⟩
        case measure => simp [intOf]; omega
      · obtain rfl := far.out hb
        go_wp2_with (go_at_call 58; refine (hin _).mono ?_; rintro e wx ⟨rfl, rfl⟩)
        go_ret
        exact ⟨rfl, HB.out⟩
    · have e : k = 4 := by omega
      subst e
      obtain rfl : R = false := HR.out.symm.trans hany.out
      go_wp2
      go_ret
      exact ⟨rfl, HB.out⟩
end Go.Proofs.YtoefekkdjcflmaaGreatDoor.Qt
namespace Go.Proofs.YtoefekkdjcflmaaGreatDoor.Qt
open Go.RowKit Go.Proofs.YtoefekkdjcflmaaGreatDoor.Qm Go.Proofs.YtoefekkdjcflmaaGreatDoor.Qt.Qm
theorem equalIn_row {P : Program} (w : World) (d : Nat) (t e : TypeId) (n : Nat) (ht : P.underlying t = some (.array n e)) (he : P.underlying e = some (.int .i64)) (hsz : ∀ w, (sizeOf e).run P w = .ok 1 w)
    (xs ys : List Int) (hx : xs.length = n) (hy : ys.length = n) :
    (Op.equalIn (d + 2) t (.agg (xs.map (Value.int .i64)).toArray) (.agg (ys.map (Value.int .i64)).toArray)).run P w = .ok ((List.range n).all fun i => xs.getD i 0 == ys.getD i 0) w := by
  rw [List.range_eq_range', Op.equalIn]
  simp only [Sem.run_bind, run_underlying ht, Result.andThen_ok, hsz, Std.Legacy.Range.forIn_eq_forIn_range', Std.Legacy.Range.size, Nat.sub_zero, Nat.add_sub_cancel, Nat.div_one]
  have hl : ∀ i ∈ List.range' 0 n 1, i < n := fun i hi => by simpa using (List.mem_range'_1.1 hi).2
  generalize List.range' 0 n 1 = l at hl ⊢
  induction l with
  | nil => simp
  | cons i l ih =>
    have hi : i < n := hl i (by simp)
    have px : (part e (xs.map (Value.int .i64)).toArray (i * 1)).run P w = .ok (.int .i64 (xs.getD i 0)) w := by
      simp [part, isAgg, run_underlying he, List.getD, List.getElem?_eq_getElem (show i < xs.length by omega)]
    have py : (part e (ys.map (Value.int .i64)).toArray (i * 1)).run P w = .ok (.int .i64 (ys.getD i 0)) w := by
      simp [part, isAgg, run_underlying he, List.getD, List.getElem?_eq_getElem (show i < ys.length by omega)]
    have pe : (Op.equalIn (d + 1) e (.int .i64 (xs.getD i 0)) (.int .i64 (ys.getD i 0))).run P w = .ok (xs.getD i 0 == ys.getD i 0) w := run_equalIn_int w d e .i64 .i64 _ _ he
    simp only [List.forIn_cons, Sem.run_bind, px, py, pe, Result.andThen_ok, List.all_cons]
    cases hb : (xs.getD i 0 == ys.getD i 0)
    · simp
    · simp only [Bool.not_true, Bool.false_eq_true, if_false, Sem.run_pure, Result.andThen_ok, Bool.true_and]
      exact ih fun j hj => hl j (by simp [hj])
theorem Tryz.under24 : Tryz.prog.underlying 26 = some (.array 4 22) := by kernel_rfl
theorem Tryz.under35 : Tryz.prog.underlying 37 = some (.array 3 22) := by kernel_rfl
theorem Tryz.under22 : Tryz.prog.underlying 22 = some (.int .i64) := by kernel_rfl
theorem size22 (w : World) : (sizeOf 22).run Tryz.prog w = .ok 1 w := by kernel_rfl
theorem guard24 : Tryz.prog.eqGuardType Tryz.prog.depth 26 = false := by kernel_rfl
theorem guard35 : Tryz.prog.eqGuardType Tryz.prog.depth 37 = false := by kernel_rfl
def Qm.eq4 (a b c d e f g h : Int) : Bool := a == e && b == f && c == g && d == h
def Qm.eq3 (a b c e f g : Int) : Bool := a == e && b == f && c == g
theorem Qm.eq3_self (a b c : Int) : eq3 a b c a b c = true := by simp [eq3]
theorem run_eq4 (w : World) (a b c d e f g h : Int) :
    (Op.equalIn 10000 26 (.agg #[.int .i64 a, .int .i64 b, .int .i64 c, .int .i64 d]) (.agg #[.int .i64 e, .int .i64 f, .int .i64 g, .int .i64 h])).run Tryz.prog w = .ok (eq4 a b c d e f g h) w := by
  have := equalIn_row w 9998 26 22 4 Tryz.under24 Tryz.under22 size22 [a, b, c, d] [e, f, g, h] rfl rfl
  refine this.trans ?_
  simp [eq4, List.range, List.range.loop, Bool.and_assoc]
theorem run_eq3 (w : World) (a b c e f g : Int) :
    (Op.equalIn 10000 37 (.agg #[.int .i64 a, .int .i64 b, .int .i64 c]) (.agg #[.int .i64 e, .int .i64 f, .int .i64 g])).run Tryz.prog w = .ok (eq3 a b c e f g) w := by
  have := equalIn_row w 9998 37 22 3 Tryz.under35 Tryz.under22 size22 [a, b, c] [e, f, g] rfl rfl
  refine this.trans ?_
  simp [eq3, List.range, List.range.loop, Bool.and_assoc]
end Go.Proofs.YtoefekkdjcflmaaGreatDoor.Qt

