/-
  Ends: regions of the law LinkComes that draw their order.
-/
import Derived.Test.YtbhgffbmeaomkaaRGA
namespace Go.Proofs.Ytbhgffbmeaomkaa.Gr
open Go.RowKit Go.Sort Lm
set_option linter.unusedVariables false

set_option maxRecDepth 20000 in
set_option maxHeartbeats 2000000 in
theorem rgc15 {o0 o1 o2 o3 o4 o5 o6 o7 o8 o9 : Oper} {id : Nat} {Q : Exit → Act → World → Prop} (A C : Nat) (a0i a1 a2 a4 c0 c1 c2 c4 y0 y1 y2 y4 : Int) (ga gc : Option Addr) (na ca nc cc ns nv : Nat) (ss ws : List Int)
    (h0 : o0.op = Op.load 24 (Operand.tmp 6)) (d0 : o0.dst = some 62) (g0 : o0.guard = none)
    (h1 : o1.op = Op.load 24 (Operand.tmp 4)) (d1 : o1.dst = some 63) (g1 : o1.guard = none)
    (h2 : o2.op = Op.call { callee := Callee.value (Operand.func 23), args := #[Operand.tmp 63], argTypes := #[24] }) (d2 : o2.dst = some 64) (g2 : o2.guard = none)
    (h3 : o3.op = Op.call { callee := Callee.value (Operand.func 19), args := #[Operand.tmp 62, Operand.tmp 64], argTypes := #[24, 26] }) (d3 : o3.dst = some 65) (g3 : o3.guard = none)
    (h4 : o4.op = Op.move (Operand.tmp 65)) (d4 : o4.dst = some 61) (g4 : o4.guard = none)
    (h5 : o5.op = Op.extract (Operand.tmp 61) 0) (d5 : o5.dst = some 66) (g5 : o5.guard = none)
    (h6 : o6.op = Op.extract (Operand.tmp 61) 1) (d6 : o6.dst = some 67) (g6 : o6.guard = none)
    (h7 : o7.op = Op.alloc 24) (d7 : o7.dst = some 12) (g7 : o7.guard = none)
    (h8 : o8.op = Op.store 24 (Operand.tmp 12) (Operand.tmp 66)) (d8 : o8.dst = none) (g8 : o8.guard = none)
    (h9 : o9.op = Op.assign (Operand.tmp 67)) (d9 : o9.dst = some 13) (g9 : o9.guard = none)
    (hp : (List.range 10).map (pres #[o0, o1, o2, o3, o4, o5, o6, o7, o8, o9]) = [[], [], [1], [0, 2, 2], [3], [4], [4], [], [7, 5, 3, 0, 1, 2, 3, 4, 5, 7], [6, 8, 0, 1, 2, 3, 4, 5, 6, 7, 8]])
    (a0 : Act) (w0 : World) (hsz : 68 ≤ a0.tmps.size) (rC : a0.tmps[6]?.getD undef = .pointer (some ⟨C, 0, none⟩)) (rA : a0.tmps[4]?.getD undef = .pointer (some ⟨A, 0, none⟩))
    (hA : w0.heap[A]? = some (.cells #[.int .i64 a0i, .int .i64 a1, .int .i64 a2, .slice ga na ca, .int .i64 a4] 24 (0, 0))) (hC : w0.heap[C]? = some (.cells #[.int .i64 c0, .int .i64 c1, .int .i64 c2, .slice gc nc cc, .int .i64 c4] 24 (0, 0)))
    (GO : Value → World → Prop) (hGOm : ∀ v u u', GO v u → Below u.heap.size u u' → GO v u')
    (hO : ∀ u, Below w0.heap.size w0 u → Calls Try.prog 23 #[(.agg #[.int .i64 a0i, .int .i64 a1, .int .i64 a2, .slice ga na ca, .int .i64 a4])] u fun e w' => ∃ v, e = .returned v ∧ GO v w' ∧ Below u.heap.size u w')
    (hI : ∀ v u, GO v u → Below w0.heap.size w0 u → Calls Try.prog 19 #[(.agg #[.int .i64 c0, .int .i64 c1, .int .i64 c2, .slice gc nc cc, .int .i64 c4]), v] u fun e w' => ∃ g c gt ct, e = .returned (.tuple #[(.agg #[.int .i64 y0, .int .i64 y1, .int .i64 y2, .slice g ns c, .int .i64 y4]), (.slice gt nv ct)]) ∧ SeesI w' (.slice g ns c) ss ∧ New u.heap.size (.slice g ns c) ∧ SeesI w' (.slice gt nv ct) ws ∧ New u.heap.size (.slice gt nv ct) ∧ Below u.heap.size u w')
    (hend : ∀ v g c gt ct Dn u, IoS w0 ss ws #[.int .i64 y0, .int .i64 y1, .int .i64 y2, .slice g ns c, .int .i64 y4] (.slice g ns c) (.slice gt nv ct) Dn true true true u → Q .normal (((((((((a0.put (some 62) (.agg #[.int .i64 c0, .int .i64 c1, .int .i64 c2, .slice gc nc cc, .int .i64 c4])).put (some 63) (.agg #[.int .i64 a0i, .int .i64 a1, .int .i64 a2, .slice ga na ca, .int .i64 a4])).put (some 64) v).put (some 65) (.tuple #[(.agg #[.int .i64 y0, .int .i64 y1, .int .i64 y2, .slice g ns c, .int .i64 y4]), (.slice gt nv ct)])).put (some 61) (.tuple #[(.agg #[.int .i64 y0, .int .i64 y1, .int .i64 y2, .slice g ns c, .int .i64 y4]), (.slice gt nv ct)])).put (some 66) (.agg #[.int .i64 y0, .int .i64 y1, .int .i64 y2, .slice g ns c, .int .i64 y4])).put (some 67) (.slice gt nv ct)).put (some 12) (.pointer (some ⟨Dn, 0, none⟩))).put (some 13) (.slice gt nv ct)) u) : (Code.region id #[o0, o1, o2, o3, o4, o5, o6, o7, o8, o9] true).wp Try.prog Q a0 w0 := by
  have p0 : pres #[o0, o1, o2, o3, o4, o5, o6, o7, o8, o9] 0 = [] := pres_of hp (by decide) rfl
  have p1 : pres #[o0, o1, o2, o3, o4, o5, o6, o7, o8, o9] 1 = [] := pres_of hp (by decide) rfl
  have p2 : pres #[o0, o1, o2, o3, o4, o5, o6, o7, o8, o9] 2 = [1] := pres_of hp (by decide) rfl
  have p3 : pres #[o0, o1, o2, o3, o4, o5, o6, o7, o8, o9] 3 = [0, 2, 2] := pres_of hp (by decide) rfl
  have p4 : pres #[o0, o1, o2, o3, o4, o5, o6, o7, o8, o9] 4 = [3] := pres_of hp (by decide) rfl
  have p5 : pres #[o0, o1, o2, o3, o4, o5, o6, o7, o8, o9] 5 = [4] := pres_of hp (by decide) rfl
  have p6 : pres #[o0, o1, o2, o3, o4, o5, o6, o7, o8, o9] 6 = [4] := pres_of hp (by decide) rfl
  have p7 : pres #[o0, o1, o2, o3, o4, o5, o6, o7, o8, o9] 7 = [] := pres_of hp (by decide) rfl
  have p8 : pres #[o0, o1, o2, o3, o4, o5, o6, o7, o8, o9] 8 = [7, 5, 3, 0, 1, 2, 3, 4, 5, 7] := pres_of hp (by decide) rfl
  have p9 : pres #[o0, o1, o2, o3, o4, o5, o6, o7, o8, o9] 9 = [6, 8, 0, 1, 2, 3, 4, 5, 6, 7, 8] := pres_of hp (by decide) rfl
  have hor : ∀ i, i < 10 → i = 0 ∨ i = 1 ∨ i = 2 ∨ i = 3 ∨ i = 4 ∨ i = 5 ∨ i = 6 ∨ i = 7 ∨ i = 8 ∨ i = 9 := by omega
  refine wp_late (by kernel_rfl) ?_ [(0, 62), (1, 63), (2, 64), (3, 65), (4, 61), (5, 66), (6, 67), (7, 12), (9, 13)] (fun L val w => ∃ v g c gt ct Dn, (L 0 = true → val 0 = (.agg #[.int .i64 c0, .int .i64 c1, .int .i64 c2, .slice gc nc cc, .int .i64 c4])) ∧ (L 1 = true → val 1 = (.agg #[.int .i64 a0i, .int .i64 a1, .int .i64 a2, .slice ga na ca, .int .i64 a4])) ∧ (L 2 = true → val 2 = v) ∧ (L 3 = true → val 3 = (.tuple #[(.agg #[.int .i64 y0, .int .i64 y1, .int .i64 y2, .slice g ns c, .int .i64 y4]), (.slice gt nv ct)])) ∧ (L 4 = true → val 4 = (.tuple #[(.agg #[.int .i64 y0, .int .i64 y1, .int .i64 y2, .slice g ns c, .int .i64 y4]), (.slice gt nv ct)])) ∧ (L 5 = true → val 5 = (.agg #[.int .i64 y0, .int .i64 y1, .int .i64 y2, .slice g ns c, .int .i64 y4])) ∧ (L 6 = true → val 6 = (.slice gt nv ct)) ∧ (L 7 = true → val 7 = (.pointer (some ⟨Dn, 0, none⟩))) ∧ (L 9 = true → val 9 = (.slice gt nv ct)) ∧ (L 2 = true → L 3 = false → GO v w) ∧ IoS w0 ss ws #[.int .i64 y0, .int .i64 y1, .int .i64 y2, .slice g ns c, .int .i64 y4] (.slice g ns c) (.slice gt nv ct) Dn (L 3) (L 7) (L 8) w) a0 w0 (fun _ => undef) ⟨undef, none, 0, none, 0, 0, (fun h => by cases h), (fun h => by cases h), (fun h => by cases h), (fun h => by cases h), (fun h => by cases h), (fun h => by cases h), (fun h => by cases h), (fun h => by cases h), (fun h => by cases h), (fun h => by cases h), IoS.start w0 ss ws _ _ _⟩ (fun i => if i = 0 then some 62 else if i = 1 then some 63 else if i = 2 then some 64 else if i = 3 then some 65 else if i = 4 then some 61 else if i = 5 then some 66 else if i = 6 then some 67 else if i = 7 then some 12 else if i = 9 then some 13 else none) ?_ (by decide) (by show ∀ e ∈ [(0, 62), (1, 63), (2, 64), (3, 65), (4, 61), (5, 66), (6, 67), (7, 12), (9, 13)], e.1 < 10; decide) ?_ ?_
  · intro i hi k hk
    rcases hor i hi with rfl | rfl | rfl | rfl | rfl | rfl | rfl | rfl | rfl | rfl
    · rw [p0] at hk; simp at hk
    · rw [p1] at hk; simp at hk
    · rw [p2] at hk; simp at hk; omega
    · rw [p3] at hk; simp at hk; omega
    · rw [p4] at hk; simp at hk; omega
    · rw [p5] at hk; simp at hk; omega
    · rw [p6] at hk; simp at hk; omega
    · rw [p7] at hk; simp at hk
    · rw [p8] at hk; simp at hk; omega
    · rw [p9] at hk; simp at hk; omega
  · intro i hi
    rcases hor i hi with rfl | rfl | rfl | rfl | rfl | rfl | rfl | rfl | rfl | rfl
    · exact .inl ⟨62, rfl, rfl, by decide⟩
    · exact .inl ⟨63, rfl, rfl, by decide⟩
    · exact .inl ⟨64, rfl, rfl, by decide⟩
    · exact .inl ⟨65, rfl, rfl, by decide⟩
    · exact .inl ⟨61, rfl, rfl, by decide⟩
    · exact .inl ⟨66, rfl, rfl, by decide⟩
    · exact .inl ⟨67, rfl, rfl, by decide⟩
    · exact .inl ⟨12, rfl, rfl, by decide⟩
    · exact .inr ⟨rfl, by decide⟩
    · exact .inl ⟨13, rfl, rfl, by decide⟩
  · intro i hi L val w hD hcl hLi hpi
    have hcf : ∀ j, j < 10 → ∀ k ∈ pres #[o0, o1, o2, o3, o4, o5, o6, o7, o8, o9] j, L k = false → L j = false := fun j hj k hk hk0 => by
      cases e : L j with
      | false => rfl
      | true => have := hcl j hj e k hk; rw [hk0] at this; cases this
    rcases hor i hi with rfl | rfl | rfl | rfl | rfl | rfl | rfl | rfl | rfl | rfl
    · obtain ⟨v, g, c, gt, ct, Dn, q0, q1, q2, q3, q4, q5, q6, q7, q9, hgo, hS⟩ := hD
      refine wpOp_of o0 rfl g0 (oL_ldL h0 (rdO rfl rC) (five_cells (keep hS.b hC)) ?_)
      exact ⟨(.agg #[.int .i64 c0, .int .i64 c1, .int .i64 c2, .slice gc nc cc, .int .i64 c4]), by rw [d0]; rfl, ⟨v, g, c, gt, ct, Dn, (fun _ => by simp [upV]), (fun h => by simpa [upV] using q1 (by simpa [upL] using h)), (fun h => by simpa [upV] using q2 (by simpa [upL] using h)), (fun h => by simpa [upV] using q3 (by simpa [upL] using h)), (fun h => by simpa [upV] using q4 (by simpa [upL] using h)), (fun h => by simpa [upV] using q5 (by simpa [upL] using h)), (fun h => by simpa [upV] using q6 (by simpa [upL] using h)), (fun h => by simpa [upV] using q7 (by simpa [upL] using h)), (fun h => by simpa [upV] using q9 (by simpa [upL] using h)), (fun h2 h3 => hgo (by simpa [upL] using h2) (by simpa [upL] using h3)), hS⟩⟩
    · obtain ⟨v, g, c, gt, ct, Dn, q0, q1, q2, q3, q4, q5, q6, q7, q9, hgo, hS⟩ := hD
      refine wpOp_of o1 rfl g1 (oL_ldL h1 (rdO rfl rA) (five_cells (keep hS.b hA)) ?_)
      exact ⟨(.agg #[.int .i64 a0i, .int .i64 a1, .int .i64 a2, .slice ga na ca, .int .i64 a4]), by rw [d1]; rfl, ⟨v, g, c, gt, ct, Dn, (fun h => by simpa [upV] using q0 (by simpa [upL] using h)), (fun _ => by simp [upV]), (fun h => by simpa [upV] using q2 (by simpa [upL] using h)), (fun h => by simpa [upV] using q3 (by simpa [upL] using h)), (fun h => by simpa [upV] using q4 (by simpa [upL] using h)), (fun h => by simpa [upV] using q5 (by simpa [upL] using h)), (fun h => by simpa [upV] using q6 (by simpa [upL] using h)), (fun h => by simpa [upV] using q7 (by simpa [upL] using h)), (fun h => by simpa [upV] using q9 (by simpa [upL] using h)), (fun h2 h3 => hgo (by simpa [upL] using h2) (by simpa [upL] using h3)), hS⟩⟩
    · obtain ⟨v, g, c, gt, ct, Dn, q0, q1, q2, q3, q4, q5, q6, q7, q9, hgo, hS⟩ := hD
      have t1 : L 1 = true := hpi 1 (by rw [p2]; simp)
      have n3 : L 3 = false := hcf 3 (by decide) 2 (by rw [p3]; simp) hLi
      refine wpOp_of o2 rfl g2 (oL_out h2 (rdG (v := (.agg #[.int .i64 a0i, .int .i64 a1, .int .i64 a2, .slice ga na ca, .int .i64 a4])) (by omega : 63 < a0.tmps.size) rfl t1 (q1 t1)) (hO w hS.b) ?_)
      rintro e w' ⟨v', rfl, hv, hb⟩
      refine ⟨v', rfl, ?_⟩
      exact ⟨v', by rw [d2]; rfl, ⟨v', g, c, gt, ct, Dn, (fun h => by simpa [upV] using q0 (by simpa [upL] using h)), (fun h => by simpa [upV] using q1 (by simpa [upL] using h)), (fun _ => by simp [upV]), (fun h => by simpa [upV] using q3 (by simpa [upL] using h)), (fun h => by simpa [upV] using q4 (by simpa [upL] using h)), (fun h => by simpa [upV] using q5 (by simpa [upL] using h)), (fun h => by simpa [upV] using q6 (by simpa [upL] using h)), (fun h => by simpa [upV] using q7 (by simpa [upL] using h)), (fun h => by simpa [upV] using q9 (by simpa [upL] using h)), (fun _ _ => hv), hS.below hb⟩⟩
    · obtain ⟨v, g, c, gt, ct, Dn, q0, q1, q2, q3, q4, q5, q6, q7, q9, hgo, hS⟩ := hD
      have t0 : L 0 = true := hpi 0 (by rw [p3]; simp)
      have t2 : L 2 = true := hpi 2 (by rw [p3]; simp)
      have n4 : L 4 = false := hcf 4 (by decide) 3 (by rw [p4]; simp) hLi
      have n5 : L 5 = false := hcf 5 (by decide) 4 (by rw [p5]; simp) n4
      have n6 : L 6 = false := hcf 6 (by decide) 4 (by rw [p6]; simp) n4
      have n8 : L 8 = false := hcf 8 (by decide) 3 (by rw [p8]; simp) hLi
      have n9 : L 9 = false := hcf 9 (by decide) 6 (by rw [p9]; simp) n6
      rw [hLi, n8] at hS
      refine wpOp_of o3 rfl g3 (oL_in h3 (rdG (v := (.agg #[.int .i64 c0, .int .i64 c1, .int .i64 c2, .slice gc nc cc, .int .i64 c4])) (by omega : 62 < a0.tmps.size) rfl t0 (q0 t0)) (rdG (v := v) (by omega : 64 < a0.tmps.size) rfl t2 (q2 t2)) (hI v w (hgo t2 hLi) hS.b) ?_)
      rintro e w' ⟨g', c', gt', ct', rfl, k1, m1, k2, m2, hb⟩
      refine ⟨_, rfl, ?_⟩
      have hS' := hS.called hb k1 m1 k2 m2 (res' := #[.int .i64 y0, .int .i64 y1, .int .i64 y2, .slice g' ns c', .int .i64 y4])
      rw [← n8] at hS'
      exact ⟨(.tuple #[(.agg #[.int .i64 y0, .int .i64 y1, .int .i64 y2, .slice g' ns c', .int .i64 y4]), (.slice gt' nv ct')]), by rw [d3]; rfl, ⟨v, g', c', gt', ct', Dn, (fun h => by simpa [upV] using q0 (by simpa [upL] using h)), (fun h => by simpa [upV] using q1 (by simpa [upL] using h)), (fun h => by simpa [upV] using q2 (by simpa [upL] using h)), (fun _ => by simp [upV]), (fun h => by rw [show upL L 3 4 = L 4 from rfl, n4] at h; cases h), (fun h => by rw [show upL L 3 5 = L 5 from rfl, n5] at h; cases h), (fun h => by rw [show upL L 3 6 = L 6 from rfl, n6] at h; cases h), (fun h => by simpa [upV] using q7 (by simpa [upL] using h)), (fun h => by rw [show upL L 3 9 = L 9 from rfl, n9] at h; cases h), (fun _ h3 => by simp [upL] at h3), hS'⟩⟩
    · obtain ⟨v, g, c, gt, ct, Dn, q0, q1, q2, q3, q4, q5, q6, q7, q9, hgo, hS⟩ := hD
      have t3 : L 3 = true := hpi 3 (by rw [p4]; simp)
      refine wpOp_of o4 rfl g4 (oL_move h4 (rdG (v := (.tuple #[(.agg #[.int .i64 y0, .int .i64 y1, .int .i64 y2, .slice g ns c, .int .i64 y4]), (.slice gt nv ct)])) (by omega : 65 < a0.tmps.size) rfl t3 (q3 t3)) ?_)
      exact ⟨(.tuple #[(.agg #[.int .i64 y0, .int .i64 y1, .int .i64 y2, .slice g ns c, .int .i64 y4]), (.slice gt nv ct)]), by rw [d4]; rfl, ⟨v, g, c, gt, ct, Dn, (fun h => by simpa [upV] using q0 (by simpa [upL] using h)), (fun h => by simpa [upV] using q1 (by simpa [upL] using h)), (fun h => by simpa [upV] using q2 (by simpa [upL] using h)), (fun h => by simpa [upV] using q3 (by simpa [upL] using h)), (fun _ => by simp [upV]), (fun h => by simpa [upV] using q5 (by simpa [upL] using h)), (fun h => by simpa [upV] using q6 (by simpa [upL] using h)), (fun h => by simpa [upV] using q7 (by simpa [upL] using h)), (fun h => by simpa [upV] using q9 (by simpa [upL] using h)), (fun h2 h3 => hgo (by simpa [upL] using h2) (by simpa [upL] using h3)), hS⟩⟩
    · obtain ⟨v, g, c, gt, ct, Dn, q0, q1, q2, q3, q4, q5, q6, q7, q9, hgo, hS⟩ := hD
      have t4 : L 4 = true := hpi 4 (by rw [p5]; simp)
      refine wpOp_of o5 rfl g5 (oL_ext0 h5 (rdG (v := (.tuple #[(.agg #[.int .i64 y0, .int .i64 y1, .int .i64 y2, .slice g ns c, .int .i64 y4]), (.slice gt nv ct)])) (by omega : 61 < a0.tmps.size) rfl t4 (q4 t4)) ?_)
      exact ⟨(.agg #[.int .i64 y0, .int .i64 y1, .int .i64 y2, .slice g ns c, .int .i64 y4]), by rw [d5]; rfl, ⟨v, g, c, gt, ct, Dn, (fun h => by simpa [upV] using q0 (by simpa [upL] using h)), (fun h => by simpa [upV] using q1 (by simpa [upL] using h)), (fun h => by simpa [upV] using q2 (by simpa [upL] using h)), (fun h => by simpa [upV] using q3 (by simpa [upL] using h)), (fun h => by simpa [upV] using q4 (by simpa [upL] using h)), (fun _ => by simp [upV]), (fun h => by simpa [upV] using q6 (by simpa [upL] using h)), (fun h => by simpa [upV] using q7 (by simpa [upL] using h)), (fun h => by simpa [upV] using q9 (by simpa [upL] using h)), (fun h2 h3 => hgo (by simpa [upL] using h2) (by simpa [upL] using h3)), hS⟩⟩
    · obtain ⟨v, g, c, gt, ct, Dn, q0, q1, q2, q3, q4, q5, q6, q7, q9, hgo, hS⟩ := hD
      have t4 : L 4 = true := hpi 4 (by rw [p6]; simp)
      refine wpOp_of o6 rfl g6 (oL_ext1 h6 (rdG (v := (.tuple #[(.agg #[.int .i64 y0, .int .i64 y1, .int .i64 y2, .slice g ns c, .int .i64 y4]), (.slice gt nv ct)])) (by omega : 61 < a0.tmps.size) rfl t4 (q4 t4)) ?_)
      exact ⟨(.slice gt nv ct), by rw [d6]; rfl, ⟨v, g, c, gt, ct, Dn, (fun h => by simpa [upV] using q0 (by simpa [upL] using h)), (fun h => by simpa [upV] using q1 (by simpa [upL] using h)), (fun h => by simpa [upV] using q2 (by simpa [upL] using h)), (fun h => by simpa [upV] using q3 (by simpa [upL] using h)), (fun h => by simpa [upV] using q4 (by simpa [upL] using h)), (fun h => by simpa [upV] using q5 (by simpa [upL] using h)), (fun _ => by simp [upV]), (fun h => by simpa [upV] using q7 (by simpa [upL] using h)), (fun h => by simpa [upV] using q9 (by simpa [upL] using h)), (fun h2 h3 => hgo (by simpa [upL] using h2) (by simpa [upL] using h3)), hS⟩⟩
    · obtain ⟨v, g, c, gt, ct, Dn, q0, q1, q2, q3, q4, q5, q6, q7, q9, hgo, hS⟩ := hD
      have n8 : L 8 = false := hcf 8 (by decide) 7 (by rw [p8]; simp) hLi
      rw [hLi, n8] at hS
      refine wpOp_of o7 rfl g7 (oL_al h7 ?_)
      have hS' := hS.made
      rw [← n8] at hS'
      exact ⟨(.pointer (some ⟨w.heap.size, 0, none⟩)), by rw [d7]; rfl, ⟨v, g, c, gt, ct, w.heap.size, (fun h => by simpa [upV] using q0 (by simpa [upL] using h)), (fun h => by simpa [upV] using q1 (by simpa [upL] using h)), (fun h => by simpa [upV] using q2 (by simpa [upL] using h)), (fun h => by simpa [upV] using q3 (by simpa [upL] using h)), (fun h => by simpa [upV] using q4 (by simpa [upL] using h)), (fun h => by simpa [upV] using q5 (by simpa [upL] using h)), (fun h => by simpa [upV] using q6 (by simpa [upL] using h)), (fun _ => by simp [upV]), (fun h => by simpa [upV] using q9 (by simpa [upL] using h)), (fun h2 h3 => hGOm _ _ _ (hgo (by simpa [upL] using h2) (by simpa [upL] using h3)) (box_below w _)), hS'⟩⟩
    · obtain ⟨v, g, c, gt, ct, Dn, q0, q1, q2, q3, q4, q5, q6, q7, q9, hgo, hS⟩ := hD
      have t7 : L 7 = true := hpi 7 (by rw [p8]; simp)
      have t5 : L 5 = true := hpi 5 (by rw [p8]; simp)
      have t3 : L 3 = true := hpi 3 (by rw [p8]; simp)
      rw [t3, t7, hLi] at hS
      refine wpOp_of o8 rfl g8 (oL_stL h8 (rdG (v := (.pointer (some ⟨Dn, 0, none⟩))) (by omega : 12 < a0.tmps.size) rfl t7 (q7 t7)) (rdG (v := (.agg #[.int .i64 y0, .int .i64 y1, .int .i64 y2, .slice g ns c, .int .i64 y4])) (by omega : 66 < a0.tmps.size) rfl t5 (q5 t5)) (hS.z rfl rfl) ?_)
      exact ⟨undef, by rw [d8]; rfl, ⟨v, g, c, gt, ct, Dn, (fun h => by simpa [upV] using q0 (by simpa [upL] using h)), (fun h => by simpa [upV] using q1 (by simpa [upL] using h)), (fun h => by simpa [upV] using q2 (by simpa [upL] using h)), (fun h => by simpa [upV] using q3 (by simpa [upL] using h)), (fun h => by simpa [upV] using q4 (by simpa [upL] using h)), (fun h => by simpa [upV] using q5 (by simpa [upL] using h)), (fun h => by simpa [upV] using q6 (by simpa [upL] using h)), (fun h => by simpa [upV] using q7 (by simpa [upL] using h)), (fun h => by simpa [upV] using q9 (by simpa [upL] using h)), (fun _ h3 => by rw [show upL L 8 3 = L 3 from rfl, t3] at h3; cases h3), (by simpa [upL, t3, t7] using hS.stored (.int .i64 y0) (.int .i64 y1) (.int .i64 y2) (.slice g ns c) (.int .i64 y4))⟩⟩
    · obtain ⟨v, g, c, gt, ct, Dn, q0, q1, q2, q3, q4, q5, q6, q7, q9, hgo, hS⟩ := hD
      have t6 : L 6 = true := hpi 6 (by rw [p9]; simp)
      refine wpOp_of o9 rfl g9 (oL_assign h9 (rdG (v := (.slice gt nv ct)) (by omega : 67 < a0.tmps.size) rfl t6 (q6 t6)) ?_)
      exact ⟨(.slice gt nv ct), by rw [d9]; rfl, ⟨v, g, c, gt, ct, Dn, (fun h => by simpa [upV] using q0 (by simpa [upL] using h)), (fun h => by simpa [upV] using q1 (by simpa [upL] using h)), (fun h => by simpa [upV] using q2 (by simpa [upL] using h)), (fun h => by simpa [upV] using q3 (by simpa [upL] using h)), (fun h => by simpa [upV] using q4 (by simpa [upL] using h)), (fun h => by simpa [upV] using q5 (by simpa [upL] using h)), (fun h => by simpa [upV] using q6 (by simpa [upL] using h)), (fun h => by simpa [upV] using q7 (by simpa [upL] using h)), (fun _ => by simp [upV]), (fun h2 h3 => hgo (by simpa [upL] using h2) (by simpa [upL] using h3)), hS⟩⟩
  · intro L val w hD hall
    obtain ⟨v, g, c, gt, ct, Dn, q0, q1, q2, q3, q4, q5, q6, q7, q9, hgo, hS⟩ := hD
    rw [hall 3 (by show 3 < 10; decide), hall 7 (by show 7 < 10; decide), hall 8 (by show 8 < 10; decide)] at hS
    simp only [putsL, List.foldl_cons, List.foldl_nil, q0 (hall 0 (by show 0 < 10; decide)), q1 (hall 1 (by show 1 < 10; decide)), q2 (hall 2 (by show 2 < 10; decide)), q3 (hall 3 (by show 3 < 10; decide)), q4 (hall 4 (by show 4 < 10; decide)), q5 (hall 5 (by show 5 < 10; decide)), q6 (hall 6 (by show 6 < 10; decide)), q7 (hall 7 (by show 7 < 10; decide)), q9 (hall 9 (by show 9 < 10; decide))]
    exact hend v g c gt ct Dn w hS
set_option maxRecDepth 20000 in
set_option maxHeartbeats 2000000 in
theorem rgc18 {o0 o1 o2 o3 o4 o5 o6 o7 o8 o9 : Oper} {id : Nat} {Q : Exit → Act → World → Prop} (A C : Nat) (a0i a1 a2 a4 c0 c1 c2 c4 y0 y1 y2 y4 : Int) (ga gc : Option Addr) (na ca nc cc ns nv : Nat) (ss ws : List Int)
    (h0 : o0.op = Op.load 24 (Operand.tmp 4)) (d0 : o0.dst = some 73) (g0 : o0.guard = none)
    (h1 : o1.op = Op.load 24 (Operand.tmp 6)) (d1 : o1.dst = some 74) (g1 : o1.guard = none)
    (h2 : o2.op = Op.call { callee := Callee.value (Operand.func 23), args := #[Operand.tmp 74], argTypes := #[24] }) (d2 : o2.dst = some 75) (g2 : o2.guard = none)
    (h3 : o3.op = Op.call { callee := Callee.value (Operand.func 19), args := #[Operand.tmp 73, Operand.tmp 75], argTypes := #[24, 26] }) (d3 : o3.dst = some 76) (g3 : o3.guard = none)
    (h4 : o4.op = Op.move (Operand.tmp 76)) (d4 : o4.dst = some 72) (g4 : o4.guard = none)
    (h5 : o5.op = Op.extract (Operand.tmp 72) 0) (d5 : o5.dst = some 77) (g5 : o5.guard = none)
    (h6 : o6.op = Op.extract (Operand.tmp 72) 1) (d6 : o6.dst = some 78) (g6 : o6.guard = none)
    (h7 : o7.op = Op.alloc 24) (d7 : o7.dst = some 14) (g7 : o7.guard = none)
    (h8 : o8.op = Op.store 24 (Operand.tmp 14) (Operand.tmp 77)) (d8 : o8.dst = none) (g8 : o8.guard = none)
    (h9 : o9.op = Op.assign (Operand.tmp 78)) (d9 : o9.dst = some 15) (g9 : o9.guard = none)
    (hp : (List.range 10).map (pres #[o0, o1, o2, o3, o4, o5, o6, o7, o8, o9]) = [[], [], [1], [0, 2, 2], [3], [4], [4], [], [7, 5, 3, 0, 1, 2, 3, 4, 5, 7], [6, 8, 0, 1, 2, 3, 4, 5, 6, 7, 8]])
    (a0 : Act) (w0 : World) (hsz : 79 ≤ a0.tmps.size) (rC : a0.tmps[4]?.getD undef = .pointer (some ⟨C, 0, none⟩)) (rA : a0.tmps[6]?.getD undef = .pointer (some ⟨A, 0, none⟩))
    (hA : w0.heap[A]? = some (.cells #[.int .i64 a0i, .int .i64 a1, .int .i64 a2, .slice ga na ca, .int .i64 a4] 24 (0, 0))) (hC : w0.heap[C]? = some (.cells #[.int .i64 c0, .int .i64 c1, .int .i64 c2, .slice gc nc cc, .int .i64 c4] 24 (0, 0)))
    (GO : Value → World → Prop) (hGOm : ∀ v u u', GO v u → Below u.heap.size u u' → GO v u')
    (hO : ∀ u, Below w0.heap.size w0 u → Calls Try.prog 23 #[(.agg #[.int .i64 a0i, .int .i64 a1, .int .i64 a2, .slice ga na ca, .int .i64 a4])] u fun e w' => ∃ v, e = .returned v ∧ GO v w' ∧ Below u.heap.size u w')
    (hI : ∀ v u, GO v u → Below w0.heap.size w0 u → Calls Try.prog 19 #[(.agg #[.int .i64 c0, .int .i64 c1, .int .i64 c2, .slice gc nc cc, .int .i64 c4]), v] u fun e w' => ∃ g c gt ct, e = .returned (.tuple #[(.agg #[.int .i64 y0, .int .i64 y1, .int .i64 y2, .slice g ns c, .int .i64 y4]), (.slice gt nv ct)]) ∧ SeesI w' (.slice g ns c) ss ∧ New u.heap.size (.slice g ns c) ∧ SeesI w' (.slice gt nv ct) ws ∧ New u.heap.size (.slice gt nv ct) ∧ Below u.heap.size u w')
    (hend : ∀ v g c gt ct Dn u, IoS w0 ss ws #[.int .i64 y0, .int .i64 y1, .int .i64 y2, .slice g ns c, .int .i64 y4] (.slice g ns c) (.slice gt nv ct) Dn true true true u → Q .normal (((((((((a0.put (some 73) (.agg #[.int .i64 c0, .int .i64 c1, .int .i64 c2, .slice gc nc cc, .int .i64 c4])).put (some 74) (.agg #[.int .i64 a0i, .int .i64 a1, .int .i64 a2, .slice ga na ca, .int .i64 a4])).put (some 75) v).put (some 76) (.tuple #[(.agg #[.int .i64 y0, .int .i64 y1, .int .i64 y2, .slice g ns c, .int .i64 y4]), (.slice gt nv ct)])).put (some 72) (.tuple #[(.agg #[.int .i64 y0, .int .i64 y1, .int .i64 y2, .slice g ns c, .int .i64 y4]), (.slice gt nv ct)])).put (some 77) (.agg #[.int .i64 y0, .int .i64 y1, .int .i64 y2, .slice g ns c, .int .i64 y4])).put (some 78) (.slice gt nv ct)).put (some 14) (.pointer (some ⟨Dn, 0, none⟩))).put (some 15) (.slice gt nv ct)) u) : (Code.region id #[o0, o1, o2, o3, o4, o5, o6, o7, o8, o9] true).wp Try.prog Q a0 w0 := by
  have p0 : pres #[o0, o1, o2, o3, o4, o5, o6, o7, o8, o9] 0 = [] := pres_of hp (by decide) rfl
  have p1 : pres #[o0, o1, o2, o3, o4, o5, o6, o7, o8, o9] 1 = [] := pres_of hp (by decide) rfl
  have p2 : pres #[o0, o1, o2, o3, o4, o5, o6, o7, o8, o9] 2 = [1] := pres_of hp (by decide) rfl
  have p3 : pres #[o0, o1, o2, o3, o4, o5, o6, o7, o8, o9] 3 = [0, 2, 2] := pres_of hp (by decide) rfl
  have p4 : pres #[o0, o1, o2, o3, o4, o5, o6, o7, o8, o9] 4 = [3] := pres_of hp (by decide) rfl
  have p5 : pres #[o0, o1, o2, o3, o4, o5, o6, o7, o8, o9] 5 = [4] := pres_of hp (by decide) rfl
  have p6 : pres #[o0, o1, o2, o3, o4, o5, o6, o7, o8, o9] 6 = [4] := pres_of hp (by decide) rfl
  have p7 : pres #[o0, o1, o2, o3, o4, o5, o6, o7, o8, o9] 7 = [] := pres_of hp (by decide) rfl
  have p8 : pres #[o0, o1, o2, o3, o4, o5, o6, o7, o8, o9] 8 = [7, 5, 3, 0, 1, 2, 3, 4, 5, 7] := pres_of hp (by decide) rfl
  have p9 : pres #[o0, o1, o2, o3, o4, o5, o6, o7, o8, o9] 9 = [6, 8, 0, 1, 2, 3, 4, 5, 6, 7, 8] := pres_of hp (by decide) rfl
  have hor : ∀ i, i < 10 → i = 0 ∨ i = 1 ∨ i = 2 ∨ i = 3 ∨ i = 4 ∨ i = 5 ∨ i = 6 ∨ i = 7 ∨ i = 8 ∨ i = 9 := by omega
  refine wp_late (by kernel_rfl) ?_ [(0, 73), (1, 74), (2, 75), (3, 76), (4, 72), (5, 77), (6, 78), (7, 14), (9, 15)] (fun L val w => ∃ v g c gt ct Dn, (L 0 = true → val 0 = (.agg #[.int .i64 c0, .int .i64 c1, .int .i64 c2, .slice gc nc cc, .int .i64 c4])) ∧ (L 1 = true → val 1 = (.agg #[.int .i64 a0i, .int .i64 a1, .int .i64 a2, .slice ga na ca, .int .i64 a4])) ∧ (L 2 = true → val 2 = v) ∧ (L 3 = true → val 3 = (.tuple #[(.agg #[.int .i64 y0, .int .i64 y1, .int .i64 y2, .slice g ns c, .int .i64 y4]), (.slice gt nv ct)])) ∧ (L 4 = true → val 4 = (.tuple #[(.agg #[.int .i64 y0, .int .i64 y1, .int .i64 y2, .slice g ns c, .int .i64 y4]), (.slice gt nv ct)])) ∧ (L 5 = true → val 5 = (.agg #[.int .i64 y0, .int .i64 y1, .int .i64 y2, .slice g ns c, .int .i64 y4])) ∧ (L 6 = true → val 6 = (.slice gt nv ct)) ∧ (L 7 = true → val 7 = (.pointer (some ⟨Dn, 0, none⟩))) ∧ (L 9 = true → val 9 = (.slice gt nv ct)) ∧ (L 2 = true → L 3 = false → GO v w) ∧ IoS w0 ss ws #[.int .i64 y0, .int .i64 y1, .int .i64 y2, .slice g ns c, .int .i64 y4] (.slice g ns c) (.slice gt nv ct) Dn (L 3) (L 7) (L 8) w) a0 w0 (fun _ => undef) ⟨undef, none, 0, none, 0, 0, (fun h => by cases h), (fun h => by cases h), (fun h => by cases h), (fun h => by cases h), (fun h => by cases h), (fun h => by cases h), (fun h => by cases h), (fun h => by cases h), (fun h => by cases h), (fun h => by cases h), IoS.start w0 ss ws _ _ _⟩ (fun i => if i = 0 then some 73 else if i = 1 then some 74 else if i = 2 then some 75 else if i = 3 then some 76 else if i = 4 then some 72 else if i = 5 then some 77 else if i = 6 then some 78 else if i = 7 then some 14 else if i = 9 then some 15 else none) ?_ (by decide) (by show ∀ e ∈ [(0, 73), (1, 74), (2, 75), (3, 76), (4, 72), (5, 77), (6, 78), (7, 14), (9, 15)], e.1 < 10; decide) ?_ ?_
  · intro i hi k hk
    rcases hor i hi with rfl | rfl | rfl | rfl | rfl | rfl | rfl | rfl | rfl | rfl
    · rw [p0] at hk; simp at hk
    · rw [p1] at hk; simp at hk
    · rw [p2] at hk; simp at hk; omega
    · rw [p3] at hk; simp at hk; omega
    · rw [p4] at hk; simp at hk; omega
    · rw [p5] at hk; simp at hk; omega
    · rw [p6] at hk; simp at hk; omega
    · rw [p7] at hk; simp at hk
    · rw [p8] at hk; simp at hk; omega
    · rw [p9] at hk; simp at hk; omega
  · intro i hi
    rcases hor i hi with rfl | rfl | rfl | rfl | rfl | rfl | rfl | rfl | rfl | rfl
    · exact .inl ⟨73, rfl, rfl, by decide⟩
    · exact .inl ⟨74, rfl, rfl, by decide⟩
    · exact .inl ⟨75, rfl, rfl, by decide⟩
    · exact .inl ⟨76, rfl, rfl, by decide⟩
    · exact .inl ⟨72, rfl, rfl, by decide⟩
    · exact .inl ⟨77, rfl, rfl, by decide⟩
    · exact .inl ⟨78, rfl, rfl, by decide⟩
    · exact .inl ⟨14, rfl, rfl, by decide⟩
    · exact .inr ⟨rfl, by decide⟩
    · exact .inl ⟨15, rfl, rfl, by decide⟩
  · intro i hi L val w hD hcl hLi hpi
    have hcf : ∀ j, j < 10 → ∀ k ∈ pres #[o0, o1, o2, o3, o4, o5, o6, o7, o8, o9] j, L k = false → L j = false := fun j hj k hk hk0 => by
      cases e : L j with
      | false => rfl
      | true => have := hcl j hj e k hk; rw [hk0] at this; cases this
    rcases hor i hi with rfl | rfl | rfl | rfl | rfl | rfl | rfl | rfl | rfl | rfl
    · obtain ⟨v, g, c, gt, ct, Dn, q0, q1, q2, q3, q4, q5, q6, q7, q9, hgo, hS⟩ := hD
      refine wpOp_of o0 rfl g0 (oL_ldL h0 (rdO rfl rC) (five_cells (keep hS.b hC)) ?_)
      exact ⟨(.agg #[.int .i64 c0, .int .i64 c1, .int .i64 c2, .slice gc nc cc, .int .i64 c4]), by rw [d0]; rfl, ⟨v, g, c, gt, ct, Dn, (fun _ => by simp [upV]), (fun h => by simpa [upV] using q1 (by simpa [upL] using h)), (fun h => by simpa [upV] using q2 (by simpa [upL] using h)), (fun h => by simpa [upV] using q3 (by simpa [upL] using h)), (fun h => by simpa [upV] using q4 (by simpa [upL] using h)), (fun h => by simpa [upV] using q5 (by simpa [upL] using h)), (fun h => by simpa [upV] using q6 (by simpa [upL] using h)), (fun h => by simpa [upV] using q7 (by simpa [upL] using h)), (fun h => by simpa [upV] using q9 (by simpa [upL] using h)), (fun h2 h3 => hgo (by simpa [upL] using h2) (by simpa [upL] using h3)), hS⟩⟩
    · obtain ⟨v, g, c, gt, ct, Dn, q0, q1, q2, q3, q4, q5, q6, q7, q9, hgo, hS⟩ := hD
      refine wpOp_of o1 rfl g1 (oL_ldL h1 (rdO rfl rA) (five_cells (keep hS.b hA)) ?_)
      exact ⟨(.agg #[.int .i64 a0i, .int .i64 a1, .int .i64 a2, .slice ga na ca, .int .i64 a4]), by rw [d1]; rfl, ⟨v, g, c, gt, ct, Dn, (fun h => by simpa [upV] using q0 (by simpa [upL] using h)), (fun _ => by simp [upV]), (fun h => by simpa [upV] using q2 (by simpa [upL] using h)), (fun h => by simpa [upV] using q3 (by simpa [upL] using h)), (fun h => by simpa [upV] using q4 (by simpa [upL] using h)), (fun h => by simpa [upV] using q5 (by simpa [upL] using h)), (fun h => by simpa [upV] using q6 (by simpa [upL] using h)), (fun h => by simpa [upV] using q7 (by simpa [upL] using h)), (fun h => by simpa [upV] using q9 (by simpa [upL] using h)), (fun h2 h3 => hgo (by simpa [upL] using h2) (by simpa [upL] using h3)), hS⟩⟩
    · obtain ⟨v, g, c, gt, ct, Dn, q0, q1, q2, q3, q4, q5, q6, q7, q9, hgo, hS⟩ := hD
      have t1 : L 1 = true := hpi 1 (by rw [p2]; simp)
      have n3 : L 3 = false := hcf 3 (by decide) 2 (by rw [p3]; simp) hLi
      refine wpOp_of o2 rfl g2 (oL_out h2 (rdG (v := (.agg #[.int .i64 a0i, .int .i64 a1, .int .i64 a2, .slice ga na ca, .int .i64 a4])) (by omega : 74 < a0.tmps.size) rfl t1 (q1 t1)) (hO w hS.b) ?_)
      rintro e w' ⟨v', rfl, hv, hb⟩
      refine ⟨v', rfl, ?_⟩
      exact ⟨v', by rw [d2]; rfl, ⟨v', g, c, gt, ct, Dn, (fun h => by simpa [upV] using q0 (by simpa [upL] using h)), (fun h => by simpa [upV] using q1 (by simpa [upL] using h)), (fun _ => by simp [upV]), (fun h => by simpa [upV] using q3 (by simpa [upL] using h)), (fun h => by simpa [upV] using q4 (by simpa [upL] using h)), (fun h => by simpa [upV] using q5 (by simpa [upL] using h)), (fun h => by simpa [upV] using q6 (by simpa [upL] using h)), (fun h => by simpa [upV] using q7 (by simpa [upL] using h)), (fun h => by simpa [upV] using q9 (by simpa [upL] using h)), (fun _ _ => hv), hS.below hb⟩⟩
    · obtain ⟨v, g, c, gt, ct, Dn, q0, q1, q2, q3, q4, q5, q6, q7, q9, hgo, hS⟩ := hD
      have t0 : L 0 = true := hpi 0 (by rw [p3]; simp)
      have t2 : L 2 = true := hpi 2 (by rw [p3]; simp)
      have n4 : L 4 = false := hcf 4 (by decide) 3 (by rw [p4]; simp) hLi
      have n5 : L 5 = false := hcf 5 (by decide) 4 (by rw [p5]; simp) n4
      have n6 : L 6 = false := hcf 6 (by decide) 4 (by rw [p6]; simp) n4
      have n8 : L 8 = false := hcf 8 (by decide) 3 (by rw [p8]; simp) hLi
      have n9 : L 9 = false := hcf 9 (by decide) 6 (by rw [p9]; simp) n6
      rw [hLi, n8] at hS
      refine wpOp_of o3 rfl g3 (oL_in h3 (rdG (v := (.agg #[.int .i64 c0, .int .i64 c1, .int .i64 c2, .slice gc nc cc, .int .i64 c4])) (by omega : 73 < a0.tmps.size) rfl t0 (q0 t0)) (rdG (v := v) (by omega : 75 < a0.tmps.size) rfl t2 (q2 t2)) (hI v w (hgo t2 hLi) hS.b) ?_)
      rintro e w' ⟨g', c', gt', ct', rfl, k1, m1, k2, m2, hb⟩
      refine ⟨_, rfl, ?_⟩
      have hS' := hS.called hb k1 m1 k2 m2 (res' := #[.int .i64 y0, .int .i64 y1, .int .i64 y2, .slice g' ns c', .int .i64 y4])
      rw [← n8] at hS'
      exact ⟨(.tuple #[(.agg #[.int .i64 y0, .int .i64 y1, .int .i64 y2, .slice g' ns c', .int .i64 y4]), (.slice gt' nv ct')]), by rw [d3]; rfl, ⟨v, g', c', gt', ct', Dn, (fun h => by simpa [upV] using q0 (by simpa [upL] using h)), (fun h => by simpa [upV] using q1 (by simpa [upL] using h)), (fun h => by simpa [upV] using q2 (by simpa [upL] using h)), (fun _ => by simp [upV]), (fun h => by rw [show upL L 3 4 = L 4 from rfl, n4] at h; cases h), (fun h => by rw [show upL L 3 5 = L 5 from rfl, n5] at h; cases h), (fun h => by rw [show upL L 3 6 = L 6 from rfl, n6] at h; cases h), (fun h => by simpa [upV] using q7 (by simpa [upL] using h)), (fun h => by rw [show upL L 3 9 = L 9 from rfl, n9] at h; cases h), (fun _ h3 => by simp [upL] at h3), hS'⟩⟩
    · obtain ⟨v, g, c, gt, ct, Dn, q0, q1, q2, q3, q4, q5, q6, q7, q9, hgo, hS⟩ := hD
      have t3 : L 3 = true := hpi 3 (by rw [p4]; simp)
      refine wpOp_of o4 rfl g4 (oL_move h4 (rdG (v := (.tuple #[(.agg #[.int .i64 y0, .int .i64 y1, .int .i64 y2, .slice g ns c, .int .i64 y4]), (.slice gt nv ct)])) (by omega : 76 < a0.tmps.size) rfl t3 (q3 t3)) ?_)
      exact ⟨(.tuple #[(.agg #[.int .i64 y0, .int .i64 y1, .int .i64 y2, .slice g ns c, .int .i64 y4]), (.slice gt nv ct)]), by rw [d4]; rfl, ⟨v, g, c, gt, ct, Dn, (fun h => by simpa [upV] using q0 (by simpa [upL] using h)), (fun h => by simpa [upV] using q1 (by simpa [upL] using h)), (fun h => by simpa [upV] using q2 (by simpa [upL] using h)), (fun h => by simpa [upV] using q3 (by simpa [upL] using h)), (fun _ => by simp [upV]), (fun h => by simpa [upV] using q5 (by simpa [upL] using h)), (fun h => by simpa [upV] using q6 (by simpa [upL] using h)), (fun h => by simpa [upV] using q7 (by simpa [upL] using h)), (fun h => by simpa [upV] using q9 (by simpa [upL] using h)), (fun h2 h3 => hgo (by simpa [upL] using h2) (by simpa [upL] using h3)), hS⟩⟩
    · obtain ⟨v, g, c, gt, ct, Dn, q0, q1, q2, q3, q4, q5, q6, q7, q9, hgo, hS⟩ := hD
      have t4 : L 4 = true := hpi 4 (by rw [p5]; simp)
      refine wpOp_of o5 rfl g5 (oL_ext0 h5 (rdG (v := (.tuple #[(.agg #[.int .i64 y0, .int .i64 y1, .int .i64 y2, .slice g ns c, .int .i64 y4]), (.slice gt nv ct)])) (by omega : 72 < a0.tmps.size) rfl t4 (q4 t4)) ?_)
      exact ⟨(.agg #[.int .i64 y0, .int .i64 y1, .int .i64 y2, .slice g ns c, .int .i64 y4]), by rw [d5]; rfl, ⟨v, g, c, gt, ct, Dn, (fun h => by simpa [upV] using q0 (by simpa [upL] using h)), (fun h => by simpa [upV] using q1 (by simpa [upL] using h)), (fun h => by simpa [upV] using q2 (by simpa [upL] using h)), (fun h => by simpa [upV] using q3 (by simpa [upL] using h)), (fun h => by simpa [upV] using q4 (by simpa [upL] using h)), (fun _ => by simp [upV]), (fun h => by simpa [upV] using q6 (by simpa [upL] using h)), (fun h => by simpa [upV] using q7 (by simpa [upL] using h)), (fun h => by simpa [upV] using q9 (by simpa [upL] using h)), (fun h2 h3 => hgo (by simpa [upL] using h2) (by simpa [upL] using h3)), hS⟩⟩
    · obtain ⟨v, g, c, gt, ct, Dn, q0, q1, q2, q3, q4, q5, q6, q7, q9, hgo, hS⟩ := hD
      have t4 : L 4 = true := hpi 4 (by rw [p6]; simp)
      refine wpOp_of o6 rfl g6 (oL_ext1 h6 (rdG (v := (.tuple #[(.agg #[.int .i64 y0, .int .i64 y1, .int .i64 y2, .slice g ns c, .int .i64 y4]), (.slice gt nv ct)])) (by omega : 72 < a0.tmps.size) rfl t4 (q4 t4)) ?_)
      exact ⟨(.slice gt nv ct), by rw [d6]; rfl, ⟨v, g, c, gt, ct, Dn, (fun h => by simpa [upV] using q0 (by simpa [upL] using h)), (fun h => by simpa [upV] using q1 (by simpa [upL] using h)), (fun h => by simpa [upV] using q2 (by simpa [upL] using h)), (fun h => by simpa [upV] using q3 (by simpa [upL] using h)), (fun h => by simpa [upV] using q4 (by simpa [upL] using h)), (fun h => by simpa [upV] using q5 (by simpa [upL] using h)), (fun _ => by simp [upV]), (fun h => by simpa [upV] using q7 (by simpa [upL] using h)), (fun h => by simpa [upV] using q9 (by simpa [upL] using h)), (fun h2 h3 => hgo (by simpa [upL] using h2) (by simpa [upL] using h3)), hS⟩⟩
    · obtain ⟨v, g, c, gt, ct, Dn, q0, q1, q2, q3, q4, q5, q6, q7, q9, hgo, hS⟩ := hD
      have n8 : L 8 = false := hcf 8 (by decide) 7 (by rw [p8]; simp) hLi
      rw [hLi, n8] at hS
      refine wpOp_of o7 rfl g7 (oL_al h7 ?_)
      have hS' := hS.made
      rw [← n8] at hS'
      exact ⟨(.pointer (some ⟨w.heap.size, 0, none⟩)), by rw [d7]; rfl, ⟨v, g, c, gt, ct, w.heap.size, (fun h => by simpa [upV] using q0 (by simpa [upL] using h)), (fun h => by simpa [upV] using q1 (by simpa [upL] using h)), (fun h => by simpa [upV] using q2 (by simpa [upL] using h)), (fun h => by simpa [upV] using q3 (by simpa [upL] using h)), (fun h => by simpa [upV] using q4 (by simpa [upL] using h)), (fun h => by simpa [upV] using q5 (by simpa [upL] using h)), (fun h => by simpa [upV] using q6 (by simpa [upL] using h)), (fun _ => by simp [upV]), (fun h => by simpa [upV] using q9 (by simpa [upL] using h)), (fun h2 h3 => hGOm _ _ _ (hgo (by simpa [upL] using h2) (by simpa [upL] using h3)) (box_below w _)), hS'⟩⟩
    · obtain ⟨v, g, c, gt, ct, Dn, q0, q1, q2, q3, q4, q5, q6, q7, q9, hgo, hS⟩ := hD
      have t7 : L 7 = true := hpi 7 (by rw [p8]; simp)
      have t5 : L 5 = true := hpi 5 (by rw [p8]; simp)
      have t3 : L 3 = true := hpi 3 (by rw [p8]; simp)
      rw [t3, t7, hLi] at hS
      refine wpOp_of o8 rfl g8 (oL_stL h8 (rdG (v := (.pointer (some ⟨Dn, 0, none⟩))) (by omega : 14 < a0.tmps.size) rfl t7 (q7 t7)) (rdG (v := (.agg #[.int .i64 y0, .int .i64 y1, .int .i64 y2, .slice g ns c, .int .i64 y4])) (by omega : 77 < a0.tmps.size) rfl t5 (q5 t5)) (hS.z rfl rfl) ?_)
      exact ⟨undef, by rw [d8]; rfl, ⟨v, g, c, gt, ct, Dn, (fun h => by simpa [upV] using q0 (by simpa [upL] using h)), (fun h => by simpa [upV] using q1 (by simpa [upL] using h)), (fun h => by simpa [upV] using q2 (by simpa [upL] using h)), (fun h => by simpa [upV] using q3 (by simpa [upL] using h)), (fun h => by simpa [upV] using q4 (by simpa [upL] using h)), (fun h => by simpa [upV] using q5 (by simpa [upL] using h)), (fun h => by simpa [upV] using q6 (by simpa [upL] using h)), (fun h => by simpa [upV] using q7 (by simpa [upL] using h)), (fun h => by simpa [upV] using q9 (by simpa [upL] using h)), (fun _ h3 => by rw [show upL L 8 3 = L 3 from rfl, t3] at h3; cases h3), (by simpa [upL, t3, t7] using hS.stored (.int .i64 y0) (.int .i64 y1) (.int .i64 y2) (.slice g ns c) (.int .i64 y4))⟩⟩
    · obtain ⟨v, g, c, gt, ct, Dn, q0, q1, q2, q3, q4, q5, q6, q7, q9, hgo, hS⟩ := hD
      have t6 : L 6 = true := hpi 6 (by rw [p9]; simp)
      refine wpOp_of o9 rfl g9 (oL_assign h9 (rdG (v := (.slice gt nv ct)) (by omega : 78 < a0.tmps.size) rfl t6 (q6 t6)) ?_)
      exact ⟨(.slice gt nv ct), by rw [d9]; rfl, ⟨v, g, c, gt, ct, Dn, (fun h => by simpa [upV] using q0 (by simpa [upL] using h)), (fun h => by simpa [upV] using q1 (by simpa [upL] using h)), (fun h => by simpa [upV] using q2 (by simpa [upL] using h)), (fun h => by simpa [upV] using q3 (by simpa [upL] using h)), (fun h => by simpa [upV] using q4 (by simpa [upL] using h)), (fun h => by simpa [upV] using q5 (by simpa [upL] using h)), (fun h => by simpa [upV] using q6 (by simpa [upL] using h)), (fun h => by simpa [upV] using q7 (by simpa [upL] using h)), (fun _ => by simp [upV]), (fun h2 h3 => hgo (by simpa [upL] using h2) (by simpa [upL] using h3)), hS⟩⟩
  · intro L val w hD hall
    obtain ⟨v, g, c, gt, ct, Dn, q0, q1, q2, q3, q4, q5, q6, q7, q9, hgo, hS⟩ := hD
    rw [hall 3 (by show 3 < 10; decide), hall 7 (by show 7 < 10; decide), hall 8 (by show 8 < 10; decide)] at hS
    simp only [putsL, List.foldl_cons, List.foldl_nil, q0 (hall 0 (by show 0 < 10; decide)), q1 (hall 1 (by show 1 < 10; decide)), q2 (hall 2 (by show 2 < 10; decide)), q3 (hall 3 (by show 3 < 10; decide)), q4 (hall 4 (by show 4 < 10; decide)), q5 (hall 5 (by show 5 < 10; decide)), q6 (hall 6 (by show 6 < 10; decide)), q7 (hall 7 (by show 7 < 10; decide)), q9 (hall 9 (by show 9 < 10; decide))]
    exact hend v g c gt ct Dn w hS
end Go.Proofs.Ytbhgffbmeaomkaa.Gr
