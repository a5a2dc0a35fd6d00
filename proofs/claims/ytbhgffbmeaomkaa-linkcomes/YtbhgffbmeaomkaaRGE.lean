/-
  Ends: regions of the law LinkComes that draw their order.
-/
import Derived.Test.YtbhgffbmeaomkaaRGA
namespace Go.Proofs.Ytbhgffbmeaomkaa.Gr
open Go.RowKit Go.Sort Lm
set_option linter.unusedVariables false

set_option maxRecDepth 20000 in
set_option maxHeartbeats 2000000 in
theorem rgc20 {o0 o1 o2 o3 o4 o5 o6 o7 o8 o9 : Oper} {id : Nat} {Q : Exit → Act → World → Prop} (A C : Nat) (a0i a1 a2 a4 c0 c1 c2 c4 y0 y1 y2 y4 : Int) (ga gc : Option Addr) (na ca nc cc ns nv : Nat) (ss ws : List Int)
    (h0 : o0.op = Op.load 24 (Operand.tmp 6)) (d0 : o0.dst = some 81) (g0 : o0.guard = none)
    (h1 : o1.op = Op.load 24 (Operand.tmp 4)) (d1 : o1.dst = some 82) (g1 : o1.guard = none)
    (h2 : o2.op = Op.call { callee := Callee.value (Operand.func 23), args := #[Operand.tmp 82], argTypes := #[24] }) (d2 : o2.dst = some 83) (g2 : o2.guard = none)
    (h3 : o3.op = Op.call { callee := Callee.value (Operand.func 19), args := #[Operand.tmp 81, Operand.tmp 83], argTypes := #[24, 26] }) (d3 : o3.dst = some 84) (g3 : o3.guard = none)
    (h4 : o4.op = Op.move (Operand.tmp 84)) (d4 : o4.dst = some 80) (g4 : o4.guard = none)
    (h5 : o5.op = Op.extract (Operand.tmp 80) 0) (d5 : o5.dst = some 85) (g5 : o5.guard = none)
    (h6 : o6.op = Op.extract (Operand.tmp 80) 1) (d6 : o6.dst = some 86) (g6 : o6.guard = none)
    (h7 : o7.op = Op.alloc 24) (d7 : o7.dst = some 16) (g7 : o7.guard = none)
    (h8 : o8.op = Op.store 24 (Operand.tmp 16) (Operand.tmp 85)) (d8 : o8.dst = none) (g8 : o8.guard = none)
    (h9 : o9.op = Op.assign (Operand.tmp 86)) (d9 : o9.dst = some 17) (g9 : o9.guard = none)
    (hp : (List.range 10).map (pres #[o0, o1, o2, o3, o4, o5, o6, o7, o8, o9]) = [[], [], [1], [0, 2, 2], [3], [4], [4], [], [7, 5, 3, 0, 1, 2, 3, 4, 5, 7], [6, 8, 0, 1, 2, 3, 4, 5, 6, 7, 8]])
    (a0 : Act) (w0 : World) (hsz : 87 ≤ a0.tmps.size) (rC : a0.tmps[6]?.getD undef = .pointer (some ⟨C, 0, none⟩)) (rA : a0.tmps[4]?.getD undef = .pointer (some ⟨A, 0, none⟩))
    (hA : w0.heap[A]? = some (.cells #[.int .i64 a0i, .int .i64 a1, .int .i64 a2, .slice ga na ca, .int .i64 a4] 24 (0, 0))) (hC : w0.heap[C]? = some (.cells #[.int .i64 c0, .int .i64 c1, .int .i64 c2, .slice gc nc cc, .int .i64 c4] 24 (0, 0)))
    (GO : Value → World → Prop) (hGOm : ∀ v u u', GO v u → Below u.heap.size u u' → GO v u')
    (hO : ∀ u, Below w0.heap.size w0 u → Calls Try.prog 23 #[(.agg #[.int .i64 a0i, .int .i64 a1, .int .i64 a2, .slice ga na ca, .int .i64 a4])] u fun e w' => ∃ v, e = .returned v ∧ GO v w' ∧ Below u.heap.size u w')
    (hI : ∀ v u, GO v u → Below w0.heap.size w0 u → Calls Try.prog 19 #[(.agg #[.int .i64 c0, .int .i64 c1, .int .i64 c2, .slice gc nc cc, .int .i64 c4]), v] u fun e w' => ∃ g c gt ct, e = .returned (.tuple #[(.agg #[.int .i64 y0, .int .i64 y1, .int .i64 y2, .slice g ns c, .int .i64 y4]), (.slice gt nv ct)]) ∧ SeesI w' (.slice g ns c) ss ∧ New u.heap.size (.slice g ns c) ∧ SeesI w' (.slice gt nv ct) ws ∧ New u.heap.size (.slice gt nv ct) ∧ Below u.heap.size u w')
    (hend : ∀ v g c gt ct Dn u, IoS w0 ss ws #[.int .i64 y0, .int .i64 y1, .int .i64 y2, .slice g ns c, .int .i64 y4] (.slice g ns c) (.slice gt nv ct) Dn true true true u → Q .normal (((((((((a0.put (some 81) (.agg #[.int .i64 c0, .int .i64 c1, .int .i64 c2, .slice gc nc cc, .int .i64 c4])).put (some 82) (.agg #[.int .i64 a0i, .int .i64 a1, .int .i64 a2, .slice ga na ca, .int .i64 a4])).put (some 83) v).put (some 84) (.tuple #[(.agg #[.int .i64 y0, .int .i64 y1, .int .i64 y2, .slice g ns c, .int .i64 y4]), (.slice gt nv ct)])).put (some 80) (.tuple #[(.agg #[.int .i64 y0, .int .i64 y1, .int .i64 y2, .slice g ns c, .int .i64 y4]), (.slice gt nv ct)])).put (some 85) (.agg #[.int .i64 y0, .int .i64 y1, .int .i64 y2, .slice g ns c, .int .i64 y4])).put (some 86) (.slice gt nv ct)).put (some 16) (.pointer (some ⟨Dn, 0, none⟩))).put (some 17) (.slice gt nv ct)) u) : (Code.region id #[o0, o1, o2, o3, o4, o5, o6, o7, o8, o9] true).wp Try.prog Q a0 w0 := by
  have p0 : pres #[o0, o1, o2, o3, o4, o5, o6, o7, o8, o9] 0 = [] := pres_of hp (by decide) rfl
  have p1 : pres #[o0, o1, o2, o3, o4, o5, o6, o7, o8, o9] 1 = [] := pres_of hp (by decide) rfl
  have p2 : pres #[o0, o1, o2, o3, o4, o5, o6, o7, o8, o9] 2 = [1] := pres_of hp (by decide) rfl
  have p3 : pres #[o0, o1, o2, o3, o4, o5, o6, o7, o8, o9] 3 = [0, 2, 2] := pres_of hp (by decide) rfl
  have p4 : pres #[o0, o1, o2, o3, o4, o5, o6, o7, o8, o9] 4 = [3] := pres_of hp (by decide) rfl
  have p5 : pres #[o0, o1, o2, o3, o4, o5, o6, o7, o8, o9] 5 = [4] := pres_of hp (by decide) rfl
  have p6 : pres #[o0, o1, o2, o3, o4, o5, o6, o7, o8, o9] 6 = [4] := pres_of hp (by decide) rfl
  have p7 : pres #[o0, o1, o2, o3, o4, o5, o6, o7, o8, o9] 7 = [] := pres_of hp (by decide) rfl
  have p8 : pres #[o0, o1, o2, o3, o4, o5, o6, o7, o8, o9] 8 = [7, 5, 3, 0, 1, 2, 3, 4, 5, 7] := pres_of hp (by decide) rfl
  have p9 : pres #[o0, o1, o2, o3, o4, o5, o6, o7, o8, o9] 9 = [6, 8, 0, 1, 2, 3, 4, 5, 6, 7, 8] := pres_of hp (by decide) rfl
  have hor : ∀ i, i < 10 → i = 0 ∨ i = 1 ∨ i = 2 ∨ i = 3 ∨ i = 4 ∨ i = 5 ∨ i = 6 ∨ i = 7 ∨ i = 8 ∨ i = 9 := by omega
  refine wp_late (by kernel_rfl) ?_ [(0, 81), (1, 82), (2, 83), (3, 84), (4, 80), (5, 85), (6, 86), (7, 16), (9, 17)] (fun L val w => ∃ v g c gt ct Dn, (L 0 = true → val 0 = (.agg #[.int .i64 c0, .int .i64 c1, .int .i64 c2, .slice gc nc cc, .int .i64 c4])) ∧ (L 1 = true → val 1 = (.agg #[.int .i64 a0i, .int .i64 a1, .int .i64 a2, .slice ga na ca, .int .i64 a4])) ∧ (L 2 = true → val 2 = v) ∧ (L 3 = true → val 3 = (.tuple #[(.agg #[.int .i64 y0, .int .i64 y1, .int .i64 y2, .slice g ns c, .int .i64 y4]), (.slice gt nv ct)])) ∧ (L 4 = true → val 4 = (.tuple #[(.agg #[.int .i64 y0, .int .i64 y1, .int .i64 y2, .slice g ns c, .int .i64 y4]), (.slice gt nv ct)])) ∧ (L 5 = true → val 5 = (.agg #[.int .i64 y0, .int .i64 y1, .int .i64 y2, .slice g ns c, .int .i64 y4])) ∧ (L 6 = true → val 6 = (.slice gt nv ct)) ∧ (L 7 = true → val 7 = (.pointer (some ⟨Dn, 0, none⟩))) ∧ (L 9 = true → val 9 = (.slice gt nv ct)) ∧ (L 2 = true → L 3 = false → GO v w) ∧ IoS w0 ss ws #[.int .i64 y0, .int .i64 y1, .int .i64 y2, .slice g ns c, .int .i64 y4] (.slice g ns c) (.slice gt nv ct) Dn (L 3) (L 7) (L 8) w) a0 w0 (fun _ => undef) ⟨undef, none, 0, none, 0, 0, (fun h => by cases h), (fun h => by cases h), (fun h => by cases h), (fun h => by cases h), (fun h => by cases h), (fun h => by cases h), (fun h => by cases h), (fun h => by cases h), (fun h => by cases h), (fun h => by cases h), IoS.start w0 ss ws _ _ _⟩ (fun i => if i = 0 then some 81 else if i = 1 then some 82 else if i = 2 then some 83 else if i = 3 then some 84 else if i = 4 then some 80 else if i = 5 then some 85 else if i = 6 then some 86 else if i = 7 then some 16 else if i = 9 then some 17 else none) ?_ (by decide) (by show ∀ e ∈ [(0, 81), (1, 82), (2, 83), (3, 84), (4, 80), (5, 85), (6, 86), (7, 16), (9, 17)], e.1 < 10; decide) ?_ ?_
  · intro i hi k hk
    rcases hor i hi with rfl | rfl | rfl | rfl | rfl | rfl | rfl | rfl | rfl | rfl
    · rw [p0] at hk; simp at hk
    · rw [p1] at hk; simp at hk
    · rw [p2] at hk; simp at hk; omega
    · rw [p3] at hk; simp at hk; omega
    · rw [p4] at hk; simp at hk; omega
    · rw [p5] at hk; simp at hk; omega
    · rw [p6] at hk; simp at hk; omega
    · rw [p7] at hk; simp at hk
    · rw [p8] at hk; simp at hk; omega
    · rw [p9] at hk; simp at hk; omega
  · intro i hi
    rcases hor i hi with rfl | rfl | rfl | rfl | rfl | rfl | rfl | rfl | rfl | rfl
    · exact .inl ⟨81, rfl, rfl, by decide⟩
    · exact .inl ⟨82, rfl, rfl, by decide⟩
    · exact .inl ⟨83, rfl, rfl, by decide⟩
    · exact .inl ⟨84, rfl, rfl, by decide⟩
    · exact .inl ⟨80, rfl, rfl, by decide⟩
    · exact .inl ⟨85, rfl, rfl, by decide⟩
    · exact .inl ⟨86, rfl, rfl, by decide⟩
    · exact .inl ⟨16, rfl, rfl, by decide⟩
    · exact .inr ⟨rfl, by decide⟩
    · exact .inl ⟨17, rfl, rfl, by decide⟩
  · intro i hi L val w hD hcl hLi hpi
    have hcf : ∀ j, j < 10 → ∀ k ∈ pres #[o0, o1, o2, o3, o4, o5, o6, o7, o8, o9] j, L k = false → L j = false := fun j hj k hk hk0 => by
      cases e : L j with
      | false => rfl
      | true => have := hcl j hj e k hk; rw [hk0] at this; cases this
    rcases hor i hi with rfl | rfl | rfl | rfl | rfl | rfl | rfl | rfl | rfl | rfl
    · obtain ⟨v, g, c, gt, ct, Dn, q0, q1, q2, q3, q4, q5, q6, q7, q9, hgo, hS⟩ := hD
      refine wpOp_of o0 rfl g0 (oL_ldL h0 (rdO rfl rC) (five_cells (keep hS.b hC)) ?_)
      exact ⟨(.agg #[.int .i64 c0, .int .i64 c1, .int .i64 c2, .slice gc nc cc, .int .i64 c4]), by rw [d0]; rfl, ⟨v, g, c, gt, ct, Dn, (fun _ => by simp [upV]), (fun h => by simpa [upV] using q1 (by simpa [upL] using h)), (fun h => by simpa [upV] using q2 (by simpa [upL] using h)), (fun h => by simpa [upV] using q3 (by simpa [upL] using h)), (fun h => by simpa [upV] using q4 (by simpa [upL] using h)), (fun h => by simpa [upV] using q5 (by simpa [upL] using h)), (fun h => by simpa [upV] using q6 (by simpa [upL] using h)), (fun h => by simpa [upV] using q7 (by simpa [upL] using h)), (fun h => by simpa [upV] using q9 (by simpa [upL] using h)), (fun h2 h3 => hgo (by simpa [upL] using h2) (by simpa [upL] using h3)), hS⟩⟩
    · obtain ⟨v, g, c, gt, ct, Dn, q0, q1, q2, q3, q4, q5, q6, q7, q9, hgo, hS⟩ := hD
      refine wpOp_of o1 rfl g1 (oL_ldL h1 (rdO rfl rA) (five_cells (keep hS.b hA)) ?_)
      exact ⟨(.agg #[.int .i64 a0i, .int .i64 a1, .int .i64 a2, .slice ga na ca, .int .i64 a4]), by rw [d1]; rfl, ⟨v, g, c, gt, ct, Dn, (fun h => by simpa [upV] using q0 (by simpa [upL] using h)), (fun _ => by simp [upV]), (fun h => by simpa [upV] using q2 (by simpa [upL] using h)), (fun h => by simpa [upV] using q3 (by simpa [upL] using h)), (fun h => by simpa [upV] using q4 (by simpa [upL] using h)), (fun h => by simpa [upV] using q5 (by simpa [upL] using h)), (fun h => by simpa [upV] using q6 (by simpa [upL] using h)), (fun h => by simpa [upV] using q7 (by simpa [upL] using h)), (fun h => by simpa [upV] using q9 (by simpa [upL] using h)), (fun h2 h3 => hgo (by simpa [upL] using h2) (by simpa [upL] using h3)), hS⟩⟩
    · obtain ⟨v, g, c, gt, ct, Dn, q0, q1, q2, q3, q4, q5, q6, q7, q9, hgo, hS⟩ := hD
      have t1 : L 1 = true := hpi 1 (by rw [p2]; simp)
      have n3 : L 3 = false := hcf 3 (by decide) 2 (by rw [p3]; simp) hLi
      refine wpOp_of o2 rfl g2 (oL_out h2 (rdG (v := (.agg #[.int .i64 a0i, .int .i64 a1, .int .i64 a2, .slice ga na ca, .int .i64 a4])) (by omega : 82 < a0.tmps.size) rfl t1 (q1 t1)) (hO w hS.b) ?_)
      rintro e w' ⟨v', rfl, hv, hb⟩
      refine ⟨v', rfl, ?_⟩
      exact ⟨v', by rw [d2]; rfl, ⟨v', g, c, gt, ct, Dn, (fun h => by simpa [upV] using q0 (by simpa [upL] using h)), (fun h => by simpa [upV] using q1 (by simpa [upL] using h)), (fun _ => by simp [upV]), (fun h => by simpa [upV] using q3 (by simpa [upL] using h)), (fun h => by simpa [upV] using q4 (by simpa [upL] using h)), (fun h => by simpa [upV] using q5 (by simpa [upL] using h)), (fun h => by simpa [upV] using q6 (by simpa [upL] using h)), (fun h => by simpa [upV] using q7 (by simpa [upL] using h)), (fun h => by simpa [upV] using q9 (by simpa [upL] using h)), (fun _ _ => hv), hS.below hb⟩⟩
    · obtain ⟨v, g, c, gt, ct, Dn, q0, q1, q2, q3, q4, q5, q6, q7, q9, hgo, hS⟩ := hD
      have t0 : L 0 = true := hpi 0 (by rw [p3]; simp)
      have t2 : L 2 = true := hpi 2 (by rw [p3]; simp)
      have n4 : L 4 = false := hcf 4 (by decide) 3 (by rw [p4]; simp) hLi
      have n5 : L 5 = false := hcf 5 (by decide) 4 (by rw [p5]; simp) n4
      have n6 : L 6 = false := hcf 6 (by decide) 4 (by rw [p6]; simp) n4
      have n8 : L 8 = false := hcf 8 (by decide) 3 (by rw [p8]; simp) hLi
      have n9 : L 9 = false := hcf 9 (by decide) 6 (by rw [p9]; simp) n6
      rw [hLi, n8] at hS
      refine wpOp_of o3 rfl g3 (oL_in h3 (rdG (v := (.agg #[.int .i64 c0, .int .i64 c1, .int .i64 c2, .slice gc nc cc, .int .i64 c4])) (by omega : 81 < a0.tmps.size) rfl t0 (q0 t0)) (rdG (v := v) (by omega : 83 < a0.tmps.size) rfl t2 (q2 t2)) (hI v w (hgo t2 hLi) hS.b) ?_)
      rintro e w' ⟨g', c', gt', ct', rfl, k1, m1, k2, m2, hb⟩
      refine ⟨_, rfl, ?_⟩
      have hS' := hS.called hb k1 m1 k2 m2 (res' := #[.int .i64 y0, .int .i64 y1, .int .i64 y2, .slice g' ns c', .int .i64 y4])
      rw [← n8] at hS'
      exact ⟨(.tuple #[(.agg #[.int .i64 y0, .int .i64 y1, .int .i64 y2, .slice g' ns c', .int .i64 y4]), (.slice gt' nv ct')]), by rw [d3]; rfl, ⟨v, g', c', gt', ct', Dn, (fun h => by simpa [upV] using q0 (by simpa [upL] using h)), (fun h => by simpa [upV] using q1 (by simpa [upL] using h)), (fun h => by simpa [upV] using q2 (by simpa [upL] using h)), (fun _ => by simp [upV]), (fun h => by rw [show upL L 3 4 = L 4 from rfl, n4] at h; cases h), (fun h => by rw [show upL L 3 5 = L 5 from rfl, n5] at h; cases h), (fun h => by rw [show upL L 3 6 = L 6 from rfl, n6] at h; cases h), (fun h => by simpa [upV] using q7 (by simpa [upL] using h)), (fun h => by rw [show upL L 3 9 = L 9 from rfl, n9] at h; cases h), (fun _ h3 => by simp [upL] at h3), hS'⟩⟩
    · obtain ⟨v, g, c, gt, ct, Dn, q0, q1, q2, q3, q4, q5, q6, q7, q9, hgo, hS⟩ := hD
      have t3 : L 3 = true := hpi 3 (by rw [p4]; simp)
      refine wpOp_of o4 rfl g4 (oL_move h4 (rdG (v := (.tuple #[(.agg #[.int .i64 y0, .int .i64 y1, .int .i64 y2, .slice g ns c, .int .i64 y4]), (.slice gt nv ct)])) (by omega : 84 < a0.tmps.size) rfl t3 (q3 t3)) ?_)
      exact ⟨(.tuple #[(.agg #[.int .i64 y0, .int .i64 y1, .int .i64 y2, .slice g ns c, .int .i64 y4]), (.slice gt nv ct)]), by rw [d4]; rfl, ⟨v, g, c, gt, ct, Dn, (fun h => by simpa [upV] using q0 (by simpa [upL] using h)), (fun h => by simpa [upV] using q1 (by simpa [upL] using h)), (fun h => by simpa [upV] using q2 (by simpa [upL] using h)), (fun h => by simpa [upV] using q3 (by simpa [upL] using h)), (fun _ => by simp [upV]), (fun h => by simpa [upV] using q5 (by simpa [upL] using h)), (fun h => by simpa [upV] using q6 (by simpa [upL] using h)), (fun h => by simpa [upV] using q7 (by simpa [upL] using h)), (fun h => by simpa [upV] using q9 (by simpa [upL] using h)), (fun h2 h3 => hgo (by simpa [upL] using h2) (by simpa [upL] using h3)), hS⟩⟩
    · obtain ⟨v, g, c, gt, ct, Dn, q0, q1, q2, q3, q4, q5, q6, q7, q9, hgo, hS⟩ := hD
      have t4 : L 4 = true := hpi 4 (by rw [p5]; simp)
      refine wpOp_of o5 rfl g5 (oL_ext0 h5 (rdG (v := (.tuple #[(.agg #[.int .i64 y0, .int .i64 y1, .int .i64 y2, .slice g ns c, .int .i64 y4]), (.slice gt nv ct)])) (by omega : 80 < a0.tmps.size) rfl t4 (q4 t4)) ?_)
      exact ⟨(.agg #[.int .i64 y0, .int .i64 y1, .int .i64 y2, .slice g ns c, .int .i64 y4]), by rw [d5]; rfl, ⟨v, g, c, gt, ct, Dn, (fun h => by simpa [upV] using q0 (by simpa [upL] using h)), (fun h => by simpa [upV] using q1 (by simpa [upL] using h)), (fun h => by simpa [upV] using q2 (by simpa [upL] using h)), (fun h => by simpa [upV] using q3 (by simpa [upL] using h)), (fun h => by simpa [upV] using q4 (by simpa [upL] using h)), (fun _ => by simp [upV]), (fun h => by simpa [upV] using q6 (by simpa [upL] using h)), (fun h => by simpa [upV] using q7 (by simpa [upL] using h)), (fun h => by simpa [upV] using q9 (by simpa [upL] using h)), (fun h2 h3 => hgo (by simpa [upL] using h2) (by simpa [upL] using h3)), hS⟩⟩
    · obtain ⟨v, g, c, gt, ct, Dn, q0, q1, q2, q3, q4, q5, q6, q7, q9, hgo, hS⟩ := hD
      have t4 : L 4 = true := hpi 4 (by rw [p6]; simp)
      refine wpOp_of o6 rfl g6 (oL_ext1 h6 (rdG (v := (.tuple #[(.agg #[.int .i64 y0, .int .i64 y1, .int .i64 y2, .slice g ns c, .int .i64 y4]), (.slice gt nv ct)])) (by omega : 80 < a0.tmps.size) rfl t4 (q4 t4)) ?_)
      exact ⟨(.slice gt nv ct), by rw [d6]; rfl, ⟨v, g, c, gt, ct, Dn, (fun h => by simpa [upV] using q0 (by simpa [upL] using h)), (fun h => by simpa [upV] using q1 (by simpa [upL] using h)), (fun h => by simpa [upV] using q2 (by simpa [upL] using h)), (fun h => by simpa [upV] using q3 (by simpa [upL] using h)), (fun h => by simpa [upV] using q4 (by simpa [upL] using h)), (fun h => by simpa [upV] using q5 (by simpa [upL] using h)), (fun _ => by simp [upV]), (fun h => by simpa [upV] using q7 (by simpa [upL] using h)), (fun h => by simpa [upV] using q9 (by simpa [upL] using h)), (fun h2 h3 => hgo (by simpa [upL] using h2) (by simpa [upL] using h3)), hS⟩⟩
    · obtain ⟨v, g, c, gt, ct, Dn, q0, q1, q2, q3, q4, q5, q6, q7, q9, hgo, hS⟩ := hD
      have n8 : L 8 = false := hcf 8 (by decide) 7 (by rw [p8]; simp) hLi
      rw [hLi, n8] at hS
      refine wpOp_of o7 rfl g7 (oL_al h7 ?_)
      have hS' := hS.made
      rw [← n8] at hS'
      exact ⟨(.pointer (some ⟨w.heap.size, 0, none⟩)), by rw [d7]; rfl, ⟨v, g, c, gt, ct, w.heap.size, (fun h => by simpa [upV] using q0 (by simpa [upL] using h)), (fun h => by simpa [upV] using q1 (by simpa [upL] using h)), (fun h => by simpa [upV] using q2 (by simpa [upL] using h)), (fun h => by simpa [upV] using q3 (by simpa [upL] using h)), (fun h => by simpa [upV] using q4 (by simpa [upL] using h)), (fun h => by simpa [upV] using q5 (by simpa [upL] using h)), (fun h => by simpa [upV] using q6 (by simpa [upL] using h)), (fun _ => by simp [upV]), (fun h => by simpa [upV] using q9 (by simpa [upL] using h)), (fun h2 h3 => hGOm _ _ _ (hgo (by simpa [upL] using h2) (by simpa [upL] using h3)) (box_below w _)), hS'⟩⟩
    · obtain ⟨v, g, c, gt, ct, Dn, q0, q1, q2, q3, q4, q5, q6, q7, q9, hgo, hS⟩ := hD
      have t7 : L 7 = true := hpi 7 (by rw [p8]; simp)
      have t5 : L 5 = true := hpi 5 (by rw [p8]; simp)
      have t3 : L 3 = true := hpi 3 (by rw [p8]; simp)
      rw [t3, t7, hLi] at hS
      refine wpOp_of o8 rfl g8 (oL_stL h8 (rdG (v := (.pointer (some ⟨Dn, 0, none⟩))) (by omega : 16 < a0.tmps.size) rfl t7 (q7 t7)) (rdG (v := (.agg #[.int .i64 y0, .int .i64 y1, .int .i64 y2, .slice g ns c, .int .i64 y4])) (by omega : 85 < a0.tmps.size) rfl t5 (q5 t5)) (hS.z rfl rfl) ?_)
      exact ⟨undef, by rw [d8]; rfl, ⟨v, g, c, gt, ct, Dn, (fun h => by simpa [upV] using q0 (by simpa [upL] using h)), (fun h => by simpa [upV] using q1 (by simpa [upL] using h)), (fun h => by simpa [upV] using q2 (by simpa [upL] using h)), (fun h => by simpa [upV] using q3 (by simpa [upL] using h)), (fun h => by simpa [upV] using q4 (by simpa [upL] using h)), (fun h => by simpa [upV] using q5 (by simpa [upL] using h)), (fun h => by simpa [upV] using q6 (by simpa [upL] using h)), (fun h => by simpa [upV] using q7 (by simpa [upL] using h)), (fun h => by simpa [upV] using q9 (by simpa [upL] using h)), (fun _ h3 => by rw [show upL L 8 3 = L 3 from rfl, t3] at h3; cases h3), (by simpa [upL, t3, t7] using hS.stored (.int .i64 y0) (.int .i64 y1) (.int .i64 y2) (.slice g ns c) (.int .i64 y4))⟩⟩
    · obtain ⟨v, g, c, gt, ct, Dn, q0, q1, q2, q3, q4, q5, q6, q7, q9, hgo, hS⟩ := hD
      have t6 : L 6 = true := hpi 6 (by rw [p9]; simp)
      refine wpOp_of o9 rfl g9 (oL_assign h9 (rdG (v := (.slice gt nv ct)) (by omega : 86 < a0.tmps.size) rfl t6 (q6 t6)) ?_)
      exact ⟨(.slice gt nv ct), by rw [d9]; rfl, ⟨v, g, c, gt, ct, Dn, (fun h => by simpa [upV] using q0 (by simpa [upL] using h)), (fun h => by simpa [upV] using q1 (by simpa [upL] using h)), (fun h => by simpa [upV] using q2 (by simpa [upL] using h)), (fun h => by simpa [upV] using q3 (by simpa [upL] using h)), (fun h => by simpa [upV] using q4 (by simpa [upL] using h)), (fun h => by simpa [upV] using q5 (by simpa [upL] using h)), (fun h => by simpa [upV] using q6 (by simpa [upL] using h)), (fun h => by simpa [upV] using q7 (by simpa [upL] using h)), (fun _ => by simp [upV]), (fun h2 h3 => hgo (by simpa [upL] using h2) (by simpa [upL] using h3)), hS⟩⟩
  · intro L val w hD hall
    obtain ⟨v, g, c, gt, ct, Dn, q0, q1, q2, q3, q4, q5, q6, q7, q9, hgo, hS⟩ := hD
    rw [hall 3 (by show 3 < 10; decide), hall 7 (by show 7 < 10; decide), hall 8 (by show 8 < 10; decide)] at hS
    simp only [putsL, List.foldl_cons, List.foldl_nil, q0 (hall 0 (by show 0 < 10; decide)), q1 (hall 1 (by show 1 < 10; decide)), q2 (hall 2 (by show 2 < 10; decide)), q3 (hall 3 (by show 3 < 10; decide)), q4 (hall 4 (by show 4 < 10; decide)), q5 (hall 5 (by show 5 < 10; decide)), q6 (hall 6 (by show 6 < 10; decide)), q7 (hall 7 (by show 7 < 10; decide)), q9 (hall 9 (by show 9 < 10; decide))]
    exact hend v g c gt ct Dn w hS
set_option maxRecDepth 20000 in
set_option maxHeartbeats 2000000 in
theorem rgc22 {o0 o1 o2 o3 o4 o5 o6 o7 o8 o9 : Oper} {id : Nat} {Q : Exit → Act → World → Prop} (A C : Nat) (a0i a1 a2 a4 c0 c1 c2 c4 y0 y1 y2 y4 : Int) (ga gc : Option Addr) (na ca nc cc ns nv : Nat) (ss ws : List Int)
    (h0 : o0.op = Op.load 24 (Operand.tmp 4)) (d0 : o0.dst = some 89) (g0 : o0.guard = none)
    (h1 : o1.op = Op.load 24 (Operand.tmp 6)) (d1 : o1.dst = some 90) (g1 : o1.guard = none)
    (h2 : o2.op = Op.call { callee := Callee.value (Operand.func 23), args := #[Operand.tmp 90], argTypes := #[24] }) (d2 : o2.dst = some 91) (g2 : o2.guard = none)
    (h3 : o3.op = Op.call { callee := Callee.value (Operand.func 19), args := #[Operand.tmp 89, Operand.tmp 91], argTypes := #[24, 26] }) (d3 : o3.dst = some 92) (g3 : o3.guard = none)
    (h4 : o4.op = Op.move (Operand.tmp 92)) (d4 : o4.dst = some 88) (g4 : o4.guard = none)
    (h5 : o5.op = Op.extract (Operand.tmp 88) 0) (d5 : o5.dst = some 93) (g5 : o5.guard = none)
    (h6 : o6.op = Op.extract (Operand.tmp 88) 1) (d6 : o6.dst = some 94) (g6 : o6.guard = none)
    (h7 : o7.op = Op.alloc 24) (d7 : o7.dst = some 18) (g7 : o7.guard = none)
    (h8 : o8.op = Op.store 24 (Operand.tmp 18) (Operand.tmp 93)) (d8 : o8.dst = none) (g8 : o8.guard = none)
    (h9 : o9.op = Op.assign (Operand.tmp 94)) (d9 : o9.dst = some 19) (g9 : o9.guard = none)
    (hp : (List.range 10).map (pres #[o0, o1, o2, o3, o4, o5, o6, o7, o8, o9]) = [[], [], [1], [0, 2, 2], [3], [4], [4], [], [7, 5, 3, 0, 1, 2, 3, 4, 5, 7], [6, 8, 0, 1, 2, 3, 4, 5, 6, 7, 8]])
    (a0 : Act) (w0 : World) (hsz : 95 ≤ a0.tmps.size) (rC : a0.tmps[4]?.getD undef = .pointer (some ⟨C, 0, none⟩)) (rA : a0.tmps[6]?.getD undef = .pointer (some ⟨A, 0, none⟩))
    (hA : w0.heap[A]? = some (.cells #[.int .i64 a0i, .int .i64 a1, .int .i64 a2, .slice ga na ca, .int .i64 a4] 24 (0, 0))) (hC : w0.heap[C]? = some (.cells #[.int .i64 c0, .int .i64 c1, .int .i64 c2, .slice gc nc cc, .int .i64 c4] 24 (0, 0)))
    (GO : Value → World → Prop) (hGOm : ∀ v u u', GO v u → Below u.heap.size u u' → GO v u')
    (hO : ∀ u, Below w0.heap.size w0 u → Calls Try.prog 23 #[(.agg #[.int .i64 a0i, .int .i64 a1, .int .i64 a2, .slice ga na ca, .int .i64 a4])] u fun e w' => ∃ v, e = .returned v ∧ GO v w' ∧ Below u.heap.size u w')
    (hI : ∀ v u, GO v u → Below w0.heap.size w0 u → Calls Try.prog 19 #[(.agg #[.int .i64 c0, .int .i64 c1, .int .i64 c2, .slice gc nc cc, .int .i64 c4]), v] u fun e w' => ∃ g c gt ct, e = .returned (.tuple #[(.agg #[.int .i64 y0, .int .i64 y1, .int .i64 y2, .slice g ns c, .int .i64 y4]), (.slice gt nv ct)]) ∧ SeesI w' (.slice g ns c) ss ∧ New u.heap.size (.slice g ns c) ∧ SeesI w' (.slice gt nv ct) ws ∧ New u.heap.size (.slice gt nv ct) ∧ Below u.heap.size u w')
    (hend : ∀ v g c gt ct Dn u, IoS w0 ss ws #[.int .i64 y0, .int .i64 y1, .int .i64 y2, .slice g ns c, .int .i64 y4] (.slice g ns c) (.slice gt nv ct) Dn true true true u → Q .normal (((((((((a0.put (some 89) (.agg #[.int .i64 c0, .int .i64 c1, .int .i64 c2, .slice gc nc cc, .int .i64 c4])).put (some 90) (.agg #[.int .i64 a0i, .int .i64 a1, .int .i64 a2, .slice ga na ca, .int .i64 a4])).put (some 91) v).put (some 92) (.tuple #[(.agg #[.int .i64 y0, .int .i64 y1, .int .i64 y2, .slice g ns c, .int .i64 y4]), (.slice gt nv ct)])).put (some 88) (.tuple #[(.agg #[.int .i64 y0, .int .i64 y1, .int .i64 y2, .slice g ns c, .int .i64 y4]), (.slice gt nv ct)])).put (some 93) (.agg #[.int .i64 y0, .int .i64 y1, .int .i64 y2, .slice g ns c, .int .i64 y4])).put (some 94) (.slice gt nv ct)).put (some 18) (.pointer (some ⟨Dn, 0, none⟩))).put (some 19) (.slice gt nv ct)) u) : (Code.region id #[o0, o1, o2, o3, o4, o5, o6, o7, o8, o9] true).wp Try.prog Q a0 w0 := by
  have p0 : pres #[o0, o1, o2, o3, o4, o5, o6, o7, o8, o9] 0 = [] := pres_of hp (by decide) rfl
  have p1 : pres #[o0, o1, o2, o3, o4, o5, o6, o7, o8, o9] 1 = [] := pres_of hp (by decide) rfl
  have p2 : pres #[o0, o1, o2, o3, o4, o5, o6, o7, o8, o9] 2 = [1] := pres_of hp (by decide) rfl
  have p3 : pres #[o0, o1, o2, o3, o4, o5, o6, o7, o8, o9] 3 = [0, 2, 2] := pres_of hp (by decide) rfl
  have p4 : pres #[o0, o1, o2, o3, o4, o5, o6, o7, o8, o9] 4 = [3] := pres_of hp (by decide) rfl
  have p5 : pres #[o0, o1, o2, o3, o4, o5, o6, o7, o8, o9] 5 = [4] := pres_of hp (by decide) rfl
  have p6 : pres #[o0, o1, o2, o3, o4, o5, o6, o7, o8, o9] 6 = [4] := pres_of hp (by decide) rfl
  have p7 : pres #[o0, o1, o2, o3, o4, o5, o6, o7, o8, o9] 7 = [] := pres_of hp (by decide) rfl
  have p8 : pres #[o0, o1, o2, o3, o4, o5, o6, o7, o8, o9] 8 = [7, 5, 3, 0, 1, 2, 3, 4, 5, 7] := pres_of hp (by decide) rfl
  have p9 : pres #[o0, o1, o2, o3, o4, o5, o6, o7, o8, o9] 9 = [6, 8, 0, 1, 2, 3, 4, 5, 6, 7, 8] := pres_of hp (by decide) rfl
  have hor : ∀ i, i < 10 → i = 0 ∨ i = 1 ∨ i = 2 ∨ i = 3 ∨ i = 4 ∨ i = 5 ∨ i = 6 ∨ i = 7 ∨ i = 8 ∨ i = 9 := by omega
  refine wp_late (by kernel_rfl) ?_ [(0, 89), (1, 90), (2, 91), (3, 92), (4, 88), (5, 93), (6, 94), (7, 18), (9, 19)] (fun L val w => ∃ v g c gt ct Dn, (L 0 = true → val 0 = (.agg #[.int .i64 c0, .int .i64 c1, .int .i64 c2, .slice gc nc cc, .int .i64 c4])) ∧ (L 1 = true → val 1 = (.agg #[.int .i64 a0i, .int .i64 a1, .int .i64 a2, .slice ga na ca, .int .i64 a4])) ∧ (L 2 = true → val 2 = v) ∧ (L 3 = true → val 3 = (.tuple #[(.agg #[.int .i64 y0, .int .i64 y1, .int .i64 y2, .slice g ns c, .int .i64 y4]), (.slice gt nv ct)])) ∧ (L 4 = true → val 4 = (.tuple #[(.agg #[.int .i64 y0, .int .i64 y1, .int .i64 y2, .slice g ns c, .int .i64 y4]), (.slice gt nv ct)])) ∧ (L 5 = true → val 5 = (.agg #[.int .i64 y0, .int .i64 y1, .int .i64 y2, .slice g ns c, .int .i64 y4])) ∧ (L 6 = true → val 6 = (.slice gt nv ct)) ∧ (L 7 = true → val 7 = (.pointer (some ⟨Dn, 0, none⟩))) ∧ (L 9 = true → val 9 = (.slice gt nv ct)) ∧ (L 2 = true → L 3 = false → GO v w) ∧ IoS w0 ss ws #[.int .i64 y0, .int .i64 y1, .int .i64 y2, .slice g ns c, .int .i64 y4] (.slice g ns c) (.slice gt nv ct) Dn (L 3) (L 7) (L 8) w) a0 w0 (fun _ => undef) ⟨undef, none, 0, none, 0, 0, (fun h => by cases h), (fun h => by cases h), (fun h => by cases h), (fun h => by cases h), (fun h => by cases h), (fun h => by cases h), (fun h => by cases h), (fun h => by cases h), (fun h => by cases h), (fun h => by cases h), IoS.start w0 ss ws _ _ _⟩ (fun i => if i = 0 then some 89 else if i = 1 then some 90 else if i = 2 then some 91 else if i = 3 then some 92 else if i = 4 then some 88 else if i = 5 then some 93 else if i = 6 then some 94 else if i = 7 then some 18 else if i = 9 then some 19 else none) ?_ (by decide) (by show ∀ e ∈ [(0, 89), (1, 90), (2, 91), (3, 92), (4, 88), (5, 93), (6, 94), (7, 18), (9, 19)], e.1 < 10; decide) ?_ ?_
  · intro i hi k hk
    rcases hor i hi with rfl | rfl | rfl | rfl | rfl | rfl | rfl | rfl | rfl | rfl
    · rw [p0] at hk; simp at hk
    · rw [p1] at hk; simp at hk
    · rw [p2] at hk; simp at hk; omega
    · rw [p3] at hk; simp at hk; omega
    · rw [p4] at hk; simp at hk; omega
    · rw [p5] at hk; simp at hk; omega
    · rw [p6] at hk; simp at hk; omega
    · rw [p7] at hk; simp at hk
    · rw [p8] at hk; simp at hk; omega
    · rw [p9] at hk; simp at hk; omega
  · intro i hi
    rcases hor i hi with rfl | rfl | rfl | rfl | rfl | rfl | rfl | rfl | rfl | rfl
    · exact .inl ⟨89, rfl, rfl, by decide⟩
    · exact .inl ⟨90, rfl, rfl, by decide⟩
    · exact .inl ⟨91, rfl, rfl, by decide⟩
    · exact .inl ⟨92, rfl, rfl, by decide⟩
    · exact .inl ⟨88, rfl, rfl, by decide⟩
    · exact .inl ⟨93, rfl, rfl, by decide⟩
    · exact .inl ⟨94, rfl, rfl, by decide⟩
    · exact .inl ⟨18, rfl, rfl, by decide⟩
    · exact .inr ⟨rfl, by decide⟩
    · exact .inl ⟨19, rfl, rfl, by decide⟩
  · intro i hi L val w hD hcl hLi hpi
    have hcf : ∀ j, j < 10 → ∀ k ∈ pres #[o0, o1, o2, o3, o4, o5, o6, o7, o8, o9] j, L k = false → L j = false := fun j hj k hk hk0 => by
      cases e : L j with
      | false => rfl
      | true => have := hcl j hj e k hk; rw [hk0] at this; cases this
    rcases hor i hi with rfl | rfl | rfl | rfl | rfl | rfl | rfl | rfl | rfl | rfl
    · obtain ⟨v, g, c, gt, ct, Dn, q0, q1, q2, q3, q4, q5, q6, q7, q9, hgo, hS⟩ := hD
      refine wpOp_of o0 rfl g0 (oL_ldL h0 (rdO rfl rC) (five_cells (keep hS.b hC)) ?_)
      exact ⟨(.agg #[.int .i64 c0, .int .i64 c1, .int .i64 c2, .slice gc nc cc, .int .i64 c4]), by rw [d0]; rfl, ⟨v, g, c, gt, ct, Dn, (fun _ => by simp [upV]), (fun h => by simpa [upV] using q1 (by simpa [upL] using h)), (fun h => by simpa [upV] using q2 (by simpa [upL] using h)), (fun h => by simpa [upV] using q3 (by simpa [upL] using h)), (fun h => by simpa [upV] using q4 (by simpa [upL] using h)), (fun h => by simpa [upV] using q5 (by simpa [upL] using h)), (fun h => by simpa [upV] using q6 (by simpa [upL] using h)), (fun h => by simpa [upV] using q7 (by simpa [upL] using h)), (fun h => by simpa [upV] using q9 (by simpa [upL] using h)), (fun h2 h3 => hgo (by simpa [upL] using h2) (by simpa [upL] using h3)), hS⟩⟩
    · obtain ⟨v, g, c, gt, ct, Dn, q0, q1, q2, q3, q4, q5, q6, q7, q9, hgo, hS⟩ := hD
      refine wpOp_of o1 rfl g1 (oL_ldL h1 (rdO rfl rA) (five_cells (keep hS.b hA)) ?_)
      exact ⟨(.agg #[.int .i64 a0i, .int .i64 a1, .int .i64 a2, .slice ga na ca, .int .i64 a4]), by rw [d1]; rfl, ⟨v, g, c, gt, ct, Dn, (fun h => by simpa [upV] using q0 (by simpa [upL] using h)), (fun _ => by simp [upV]), (fun h => by simpa [upV] using q2 (by simpa [upL] using h)), (fun h => by simpa [upV] using q3 (by simpa [upL] using h)), (fun h => by simpa [upV] using q4 (by simpa [upL] using h)), (fun h => by simpa [upV] using q5 (by simpa [upL] using h)), (fun h => by simpa [upV] using q6 (by simpa [upL] using h)), (fun h => by simpa [upV] using q7 (by simpa [upL] using h)), (fun h => by simpa [upV] using q9 (by simpa [upL] using h)), (fun h2 h3 => hgo (by simpa [upL] using h2) (by simpa [upL] using h3)), hS⟩⟩
    · obtain ⟨v, g, c, gt, ct, Dn, q0, q1, q2, q3, q4, q5, q6, q7, q9, hgo, hS⟩ := hD
      have t1 : L 1 = true := hpi 1 (by rw [p2]; simp)
      have n3 : L 3 = false := hcf 3 (by decide) 2 (by rw [p3]; simp) hLi
      refine wpOp_of o2 rfl g2 (oL_out h2 (rdG (v := (.agg #[.int .i64 a0i, .int .i64 a1, .int .i64 a2, .slice ga na ca, .int .i64 a4])) (by omega : 90 < a0.tmps.size) rfl t1 (q1 t1)) (hO w hS.b) ?_)
      rintro e w' ⟨v', rfl, hv, hb⟩
      refine ⟨v', rfl, ?_⟩
      exact ⟨v', by rw [d2]; rfl, ⟨v', g, c, gt, ct, Dn, (fun h => by simpa [upV] using q0 (by simpa [upL] using h)), (fun h => by simpa [upV] using q1 (by simpa [upL] using h)), (fun _ => by simp [upV]), (fun h => by simpa [upV] using q3 (by simpa [upL] using h)), (fun h => by simpa [upV] using q4 (by simpa [upL] using h)), (fun h => by simpa [upV] using q5 (by simpa [upL] using h)), (fun h => by simpa [upV] using q6 (by simpa [upL] using h)), (fun h => by simpa [upV] using q7 (by simpa [upL] using h)), (fun h => by simpa [upV] using q9 (by simpa [upL] using h)), (fun _ _ => hv), hS.below hb⟩⟩
    · obtain ⟨v, g, c, gt, ct, Dn, q0, q1, q2, q3, q4, q5, q6, q7, q9, hgo, hS⟩ := hD
      have t0 : L 0 = true := hpi 0 (by rw [p3]; simp)
      have t2 : L 2 = true := hpi 2 (by rw [p3]; simp)
      have n4 : L 4 = false := hcf 4 (by decide) 3 (by rw [p4]; simp) hLi
      have n5 : L 5 = false := hcf 5 (by decide) 4 (by rw [p5]; simp) n4
      have n6 : L 6 = false := hcf 6 (by decide) 4 (by rw [p6]; simp) n4
      have n8 : L 8 = false := hcf 8 (by decide) 3 (by rw [p8]; simp) hLi
      have n9 : L 9 = false := hcf 9 (by decide) 6 (by rw [p9]; simp) n6
      rw [hLi, n8] at hS
      refine wpOp_of o3 rfl g3 (oL_in h3 (rdG (v := (.agg #[.int .i64 c0, .int .i64 c1, .int .i64 c2, .slice gc nc cc, .int .i64 c4])) (by omega : 89 < a0.tmps.size) rfl t0 (q0 t0)) (rdG (v := v) (by omega : 91 < a0.tmps.size) rfl t2 (q2 t2)) (hI v w (hgo t2 hLi) hS.b) ?_)
      rintro e w' ⟨g', c', gt', ct', rfl, k1, m1, k2, m2, hb⟩
      refine ⟨_, rfl, ?_⟩
      have hS' := hS.called hb k1 m1 k2 m2 (res' := #[.int .i64 y0, .int .i64 y1, .int .i64 y2, .slice g' ns c', .int .i64 y4])
      rw [← n8] at hS'
      exact ⟨(.tuple #[(.agg #[.int .i64 y0, .int .i64 y1, .int .i64 y2, .slice g' ns c', .int .i64 y4]), (.slice gt' nv ct')]), by rw [d3]; rfl, ⟨v, g', c', gt', ct', Dn, (fun h => by simpa [upV] using q0 (by simpa [upL] using h)), (fun h => by simpa [upV] using q1 (by simpa [upL] using h)), (fun h => by simpa [upV] using q2 (by simpa [upL] using h)), (fun _ => by simp [upV]), (fun h => by rw [show upL L 3 4 = L 4 from rfl, n4] at h; cases h), (fun h => by rw [show upL L 3 5 = L 5 from rfl, n5] at h; cases h), (fun h => by rw [show upL L 3 6 = L 6 from rfl, n6] at h; cases h), (fun h => by simpa [upV] using q7 (by simpa [upL] using h)), (fun h => by rw [show upL L 3 9 = L 9 from rfl, n9] at h; cases h), (fun _ h3 => by simp [upL] at h3), hS'⟩⟩
    · obtain ⟨v, g, c, gt, ct, Dn, q0, q1, q2, q3, q4, q5, q6, q7, q9, hgo, hS⟩ := hD
      have t3 : L 3 = true := hpi 3 (by rw [p4]; simp)
      refine wpOp_of o4 rfl g4 (oL_move h4 (rdG (v := (.tuple #[(.agg #[.int .i64 y0, .int .i64 y1, .int .i64 y2, .slice g ns c, .int .i64 y4]), (.slice gt nv ct)])) (by omega : 92 < a0.tmps.size) rfl t3 (q3 t3)) ?_)
      exact ⟨(.tuple #[(.agg #[.int .i64 y0, .int .i64 y1, .int .i64 y2, .slice g ns c, .int .i64 y4]), (.slice gt nv ct)]), by rw [d4]; rfl, ⟨v, g, c, gt, ct, Dn, (fun h => by simpa [upV] using q0 (by simpa [upL] using h)), (fun h => by simpa [upV] using q1 (by simpa [upL] using h)), (fun h => by simpa [upV] using q2 (by simpa [upL] using h)), (fun h => by simpa [upV] using q3 (by simpa [upL] using h)), (fun _ => by simp [upV]), (fun h => by simpa [upV] using q5 (by simpa [upL] using h)), (fun h => by simpa [upV] using q6 (by simpa [upL] using h)), (fun h => by simpa [upV] using q7 (by simpa [upL] using h)), (fun h => by simpa [upV] using q9 (by simpa [upL] using h)), (fun h2 h3 => hgo (by simpa [upL] using h2) (by simpa [upL] using h3)), hS⟩⟩
    · obtain ⟨v, g, c, gt, ct, Dn, q0, q1, q2, q3, q4, q5, q6, q7, q9, hgo, hS⟩ := hD
      have t4 : L 4 = true := hpi 4 (by rw [p5]; simp)
      refine wpOp_of o5 rfl g5 (oL_ext0 h5 (rdG (v := (.tuple #[(.agg #[.int .i64 y0, .int .i64 y1, .int .i64 y2, .slice g ns c, .int .i64 y4]), (.slice gt nv ct)])) (by omega : 88 < a0.tmps.size) rfl t4 (q4 t4)) ?_)
      exact ⟨(.agg #[.int .i64 y0, .int .i64 y1, .int .i64 y2, .slice g ns c, .int .i64 y4]), by rw [d5]; rfl, ⟨v, g, c, gt, ct, Dn, (fun h => by simpa [upV] using q0 (by simpa [upL] using h)), (fun h => by simpa [upV] using q1 (by simpa [upL] using h)), (fun h => by simpa [upV] using q2 (by simpa [upL] using h)), (fun h => by simpa [upV] using q3 (by simpa [upL] using h)), (fun h => by simpa [upV] using q4 (by simpa [upL] using h)), (fun _ => by simp [upV]), (fun h => by simpa [upV] using q6 (by simpa [upL] using h)), (fun h => by simpa [upV] using q7 (by simpa [upL] using h)), (fun h => by simpa [upV] using q9 (by simpa [upL] using h)), (fun h2 h3 => hgo (by simpa [upL] using h2) (by simpa [upL] using h3)), hS⟩⟩
    · obtain ⟨v, g, c, gt, ct, Dn, q0, q1, q2, q3, q4, q5, q6, q7, q9, hgo, hS⟩ := hD
      have t4 : L 4 = true := hpi 4 (by rw [p6]; simp)
      refine wpOp_of o6 rfl g6 (oL_ext1 h6 (rdG (v := (.tuple #[(.agg #[.int .i64 y0, .int .i64 y1, .int .i64 y2, .slice g ns c, .int .i64 y4]), (.slice gt nv ct)])) (by omega : 88 < a0.tmps.size) rfl t4 (q4 t4)) ?_)
      exact ⟨(.slice gt nv ct), by rw [d6]; rfl, ⟨v, g, c, gt, ct, Dn, (fun h => by simpa [upV] using q0 (by simpa [upL] using h)), (fun h => by simpa [upV] using q1 (by simpa [upL] using h)), (fun h => by simpa [upV] using q2 (by simpa [upL] using h)), (fun h => by simpa [upV] using q3 (by simpa [upL] using h)), (fun h => by simpa [upV] using q4 (by simpa [upL] using h)), (fun h => by simpa [upV] using q5 (by simpa [upL] using h)), (fun _ => by simp [upV]), (fun h => by simpa [upV] using q7 (by simpa [upL] using h)), (fun h => by simpa [upV] using q9 (by simpa [upL] using h)), (fun h2 h3 => hgo (by simpa [upL] using h2) (by simpa [upL] using h3)), hS⟩⟩
    · obtain ⟨v, g, c, gt, ct, Dn, q0, q1, q2, q3, q4, q5, q6, q7, q9, hgo, hS⟩ := hD
      have n8 : L 8 = false := hcf 8 (by decide) 7 (by rw [p8]; simp) hLi
      rw [hLi, n8] at hS
      refine wpOp_of o7 rfl g7 (oL_al h7 ?_)
      have hS' := hS.made
      rw [← n8] at hS'
      exact ⟨(.pointer (some ⟨w.heap.size, 0, none⟩)), by rw [d7]; rfl, ⟨v, g, c, gt, ct, w.heap.size, (fun h => by simpa [upV] using q0 (by simpa [upL] using h)), (fun h => by simpa [upV] using q1 (by simpa [upL] using h)), (fun h => by simpa [upV] using q2 (by simpa [upL] using h)), (fun h => by simpa [upV] using q3 (by simpa [upL] using h)), (fun h => by simpa [upV] using q4 (by simpa [upL] using h)), (fun h => by simpa [upV] using q5 (by simpa [upL] using h)), (fun h => by simpa [upV] using q6 (by simpa [upL] using h)), (fun _ => by simp [upV]), (fun h => by simpa [upV] using q9 (by simpa [upL] using h)), (fun h2 h3 => hGOm _ _ _ (hgo (by simpa [upL] using h2) (by simpa [upL] using h3)) (box_below w _)), hS'⟩⟩
    · obtain ⟨v, g, c, gt, ct, Dn, q0, q1, q2, q3, q4, q5, q6, q7, q9, hgo, hS⟩ := hD
      have t7 : L 7 = true := hpi 7 (by rw [p8]; simp)
      have t5 : L 5 = true := hpi 5 (by rw [p8]; simp)
      have t3 : L 3 = true := hpi 3 (by rw [p8]; simp)
      rw [t3, t7, hLi] at hS
      refine wpOp_of o8 rfl g8 (oL_stL h8 (rdG (v := (.pointer (some ⟨Dn, 0, none⟩))) (by omega : 18 < a0.tmps.size) rfl t7 (q7 t7)) (rdG (v := (.agg #[.int .i64 y0, .int .i64 y1, .int .i64 y2, .slice g ns c, .int .i64 y4])) (by omega : 93 < a0.tmps.size) rfl t5 (q5 t5)) (hS.z rfl rfl) ?_)
      exact ⟨undef, by rw [d8]; rfl, ⟨v, g, c, gt, ct, Dn, (fun h => by simpa [upV] using q0 (by simpa [upL] using h)), (fun h => by simpa [upV] using q1 (by simpa [upL] using h)), (fun h => by simpa [upV] using q2 (by simpa [upL] using h)), (fun h => by simpa [upV] using q3 (by simpa [upL] using h)), (fun h => by simpa [upV] using q4 (by simpa [upL] using h)), (fun h => by simpa [upV] using q5 (by simpa [upL] using h)), (fun h => by simpa [upV] using q6 (by simpa [upL] using h)), (fun h => by simpa [upV] using q7 (by simpa [upL] using h)), (fun h => by simpa [upV] using q9 (by simpa [upL] using h)), (fun _ h3 => by rw [show upL L 8 3 = L 3 from rfl, t3] at h3; cases h3), (by simpa [upL, t3, t7] using hS.stored (.int .i64 y0) (.int .i64 y1) (.int .i64 y2) (.slice g ns c) (.int .i64 y4))⟩⟩
    · obtain ⟨v, g, c, gt, ct, Dn, q0, q1, q2, q3, q4, q5, q6, q7, q9, hgo, hS⟩ := hD
      have t6 : L 6 = true := hpi 6 (by rw [p9]; simp)
      refine wpOp_of o9 rfl g9 (oL_assign h9 (rdG (v := (.slice gt nv ct)) (by omega : 94 < a0.tmps.size) rfl t6 (q6 t6)) ?_)
      exact ⟨(.slice gt nv ct), by rw [d9]; rfl, ⟨v, g, c, gt, ct, Dn, (fun h => by simpa [upV] using q0 (by simpa [upL] using h)), (fun h => by simpa [upV] using q1 (by simpa [upL] using h)), (fun h => by simpa [upV] using q2 (by simpa [upL] using h)), (fun h => by simpa [upV] using q3 (by simpa [upL] using h)), (fun h => by simpa [upV] using q4 (by simpa [upL] using h)), (fun h => by simpa [upV] using q5 (by simpa [upL] using h)), (fun h => by simpa [upV] using q6 (by simpa [upL] using h)), (fun h => by simpa [upV] using q7 (by simpa [upL] using h)), (fun _ => by simp [upV]), (fun h2 h3 => hgo (by simpa [upL] using h2) (by simpa [upL] using h3)), hS⟩⟩
  · intro L val w hD hall
    obtain ⟨v, g, c, gt, ct, Dn, q0, q1, q2, q3, q4, q5, q6, q7, q9, hgo, hS⟩ := hD
    rw [hall 3 (by show 3 < 10; decide), hall 7 (by show 7 < 10; decide), hall 8 (by show 8 < 10; decide)] at hS
    simp only [putsL, List.foldl_cons, List.foldl_nil, q0 (hall 0 (by show 0 < 10; decide)), q1 (hall 1 (by show 1 < 10; decide)), q2 (hall 2 (by show 2 < 10; decide)), q3 (hall 3 (by show 3 < 10; decide)), q4 (hall 4 (by show 4 < 10; decide)), q5 (hall 5 (by show 5 < 10; decide)), q6 (hall 6 (by show 6 < 10; decide)), q7 (hall 7 (by show 7 < 10; decide)), q9 (hall 9 (by show 9 < 10; decide))]
    exact hend v g c gt ct Dn w hS
end Go.Proofs.Ytbhgffbmeaomkaa.Gr
