/-
  Ends: the region in which the document's In copies the end.
-/
import Derived.Test.YtbhgffbmeaomkaaRG5
namespace Go.Proofs.Ytbhgffbmeaomkaa.Gr
open Go.RowKit Go.Sort Lm
set_option linter.unusedVariables false

set_option maxRecDepth 20000 in
set_option maxHeartbeats 2000000 in
theorem rg5_any {o0 o1 o2 o3 o4 o5 o6 o7 o8 o9 o10 o11 o12 o13 o14 : Oper} {id : Nat} {Q : Exit → Act → World → Prop} (A : Nat) (a0i a1 a2 a4 : Int) (ga : Option Addr) (na ca : Nat) (ss : List Int)
    (h0 : o0.op = Op.fieldAddr 24 (Operand.tmp 2) 0) (d0 : o0.dst = some 63) (g0 : o0.guard = none)
    (h1 : o1.op = Op.load 2 (Operand.tmp 63)) (d1 : o1.dst = some 64) (g1 : o1.guard = none)
    (h2 : o2.op = Op.fieldAddr 24 (Operand.tmp 2) 1) (d2 : o2.dst = some 65) (g2 : o2.guard = none)
    (h3 : o3.op = Op.load 2 (Operand.tmp 65)) (d3 : o3.dst = some 66) (g3 : o3.guard = none)
    (h4 : o4.op = Op.fieldAddr 24 (Operand.tmp 2) 2) (d4 : o4.dst = some 67) (g4 : o4.guard = none)
    (h5 : o5.op = Op.load 2 (Operand.tmp 67)) (d5 : o5.dst = some 68) (g5 : o5.guard = none)
    (h6 : o6.op = Op.fieldAddr 24 (Operand.tmp 2) 4) (d6 : o6.dst = some 69) (g6 : o6.guard = none)
    (h7 : o7.op = Op.load 2 (Operand.tmp 69)) (d7 : o7.dst = some 70) (g7 : o7.guard = none)
    (h8 : o8.op = Op.buildSlice 22 0 #[]) (d8 : o8.dst = some 71) (g8 : o8.guard = none)
    (h9 : o9.op = Op.fieldAddr 24 (Operand.tmp 2) 3) (d9 : o9.dst = some 72) (g9 : o9.guard = none)
    (h10 : o10.op = Op.load 22 (Operand.tmp 72)) (d10 : o10.dst = some 73) (g10 : o10.guard = none)
    (h11 : o11.op = Op.call { callee := Callee.builtin Builtin.append, args := #[Operand.tmp 71, Operand.tmp 73], argTypes := #[22, 22] }) (d11 : o11.dst = some 74) (g11 : o11.guard = none)
    (h12 : o12.op = Op.build 24 #[(0, Operand.tmp 64), (1, Operand.tmp 66), (2, Operand.tmp 68), (4, Operand.tmp 70), (3, Operand.tmp 74)]) (d12 : o12.dst = some 75) (g12 : o12.guard = none)
    (h13 : o13.op = Op.alloc 24) (d13 : o13.dst = some 6) (g13 : o13.guard = none)
    (h14 : o14.op = Op.store 24 (Operand.tmp 6) (Operand.tmp 75)) (d14 : o14.dst = none) (g14 : o14.guard = none)
    (hp : (List.range 15).map (pres #[o0, o1, o2, o3, o4, o5, o6, o7, o8, o9, o10, o11, o12, o13, o14]) = [[], [0], [], [2], [], [4], [], [6], [], [], [9], [8, 10], [1, 3, 5, 7, 11], [], [13, 12, 11, 0, 1, 2, 3, 4, 5, 6, 7, 8, 9, 10, 11, 12, 13]])
    (a0 : Act) (w0 : World) (hsz : 76 ≤ a0.tmps.size) (rA : a0.tmps[2]?.getD undef = .pointer (some ⟨A, 0, none⟩))
    (hA : w0.heap[A]? = some (.cells #[.int .i64 a0i, .int .i64 a1, .int .i64 a2, .slice ga na ca, .int .i64 a4] 24 (0, 0))) (sx : SeesI w0 (.slice ga na ca) ss) (hl : ss.length ≤ 1000) (hn : ss.length = na)
    (hend : ∀ g c q Dn u, IoS w0 ss [] #[.int .i64 a0i, .int .i64 a1, .int .i64 a2, .slice g na c, .int .i64 a4] (.slice g na c) (.slice none 0 0) Dn true true true u → Q .normal ((((((((((((((a0.put (some 63) (.pointer (some ⟨A, 0, none⟩))).put (some 64) (.int .i64 a0i)).put (some 65) (.pointer (some ⟨A, 1, none⟩))).put (some 66) (.int .i64 a1)).put (some 67) (.pointer (some ⟨A, 2, none⟩))).put (some 68) (.int .i64 a2)).put (some 69) (.pointer (some ⟨A, 4, none⟩))).put (some 70) (.int .i64 a4)).put (some 71) (.slice (some ⟨q, 0, none⟩) 0 0)).put (some 72) (.pointer (some ⟨A, 3, none⟩))).put (some 73) (.slice ga na ca)).put (some 74) (.slice g na c)).put (some 75) (.agg #[.int .i64 a0i, .int .i64 a1, .int .i64 a2, .slice g na c, .int .i64 a4])).put (some 6) (.pointer (some ⟨Dn, 0, none⟩))) u) : (Code.region id #[o0, o1, o2, o3, o4, o5, o6, o7, o8, o9, o10, o11, o12, o13, o14] true).wp Try.prog Q a0 w0 := by
  have p0 : pres #[o0, o1, o2, o3, o4, o5, o6, o7, o8, o9, o10, o11, o12, o13, o14] 0 = [] := pres_of hp (by decide) rfl
  have p1 : pres #[o0, o1, o2, o3, o4, o5, o6, o7, o8, o9, o10, o11, o12, o13, o14] 1 = [0] := pres_of hp (by decide) rfl
  have p2 : pres #[o0, o1, o2, o3, o4, o5, o6, o7, o8, o9, o10, o11, o12, o13, o14] 2 = [] := pres_of hp (by decide) rfl
  have p3 : pres #[o0, o1, o2, o3, o4, o5, o6, o7, o8, o9, o10, o11, o12, o13, o14] 3 = [2] := pres_of hp (by decide) rfl
  have p4 : pres #[o0, o1, o2, o3, o4, o5, o6, o7, o8, o9, o10, o11, o12, o13, o14] 4 = [] := pres_of hp (by decide) rfl
  have p5 : pres #[o0, o1, o2, o3, o4, o5, o6, o7, o8, o9, o10, o11, o12, o13, o14] 5 = [4] := pres_of hp (by decide) rfl
  have p6 : pres #[o0, o1, o2, o3, o4, o5, o6, o7, o8, o9, o10, o11, o12, o13, o14] 6 = [] := pres_of hp (by decide) rfl
  have p7 : pres #[o0, o1, o2, o3, o4, o5, o6, o7, o8, o9, o10, o11, o12, o13, o14] 7 = [6] := pres_of hp (by decide) rfl
  have p8 : pres #[o0, o1, o2, o3, o4, o5, o6, o7, o8, o9, o10, o11, o12, o13, o14] 8 = [] := pres_of hp (by decide) rfl
  have p9 : pres #[o0, o1, o2, o3, o4, o5, o6, o7, o8, o9, o10, o11, o12, o13, o14] 9 = [] := pres_of hp (by decide) rfl
  have p10 : pres #[o0, o1, o2, o3, o4, o5, o6, o7, o8, o9, o10, o11, o12, o13, o14] 10 = [9] := pres_of hp (by decide) rfl
  have p11 : pres #[o0, o1, o2, o3, o4, o5, o6, o7, o8, o9, o10, o11, o12, o13, o14] 11 = [8, 10] := pres_of hp (by decide) rfl
  have p12 : pres #[o0, o1, o2, o3, o4, o5, o6, o7, o8, o9, o10, o11, o12, o13, o14] 12 = [1, 3, 5, 7, 11] := pres_of hp (by decide) rfl
  have p13 : pres #[o0, o1, o2, o3, o4, o5, o6, o7, o8, o9, o10, o11, o12, o13, o14] 13 = [] := pres_of hp (by decide) rfl
  have p14 : pres #[o0, o1, o2, o3, o4, o5, o6, o7, o8, o9, o10, o11, o12, o13, o14] 14 = [13, 12, 11, 0, 1, 2, 3, 4, 5, 6, 7, 8, 9, 10, 11, 12, 13] := pres_of hp (by decide) rfl
  have hor : ∀ i, i < 15 → i = 0 ∨ i = 1 ∨ i = 2 ∨ i = 3 ∨ i = 4 ∨ i = 5 ∨ i = 6 ∨ i = 7 ∨ i = 8 ∨ i = 9 ∨ i = 10 ∨ i = 11 ∨ i = 12 ∨ i = 13 ∨ i = 14 := by omega
  refine wp_late (by kernel_rfl) ?_ [(0, 63), (1, 64), (2, 65), (3, 66), (4, 67), (5, 68), (6, 69), (7, 70), (8, 71), (9, 72), (10, 73), (11, 74), (12, 75), (13, 6)] (fun L val w => ∃ g c q Dn, (L 0 = true → val 0 = (.pointer (some ⟨A, 0, none⟩))) ∧ (L 1 = true → val 1 = (.int .i64 a0i)) ∧ (L 2 = true → val 2 = (.pointer (some ⟨A, 1, none⟩))) ∧ (L 3 = true → val 3 = (.int .i64 a1)) ∧ (L 4 = true → val 4 = (.pointer (some ⟨A, 2, none⟩))) ∧ (L 5 = true → val 5 = (.int .i64 a2)) ∧ (L 6 = true → val 6 = (.pointer (some ⟨A, 4, none⟩))) ∧ (L 7 = true → val 7 = (.int .i64 a4)) ∧ (L 8 = true → val 8 = (.slice (some ⟨q, 0, none⟩) 0 0)) ∧ (L 9 = true → val 9 = (.pointer (some ⟨A, 3, none⟩))) ∧ (L 10 = true → val 10 = (.slice ga na ca)) ∧ (L 11 = true → val 11 = (.slice g na c)) ∧ (L 12 = true → val 12 = (.agg #[.int .i64 a0i, .int .i64 a1, .int .i64 a2, .slice g na c, .int .i64 a4])) ∧ (L 13 = true → val 13 = (.pointer (some ⟨Dn, 0, none⟩))) ∧ w0.heap.size ≤ q ∧ IoS w0 ss [] #[.int .i64 a0i, .int .i64 a1, .int .i64 a2, .slice g na c, .int .i64 a4] (.slice g na c) (.slice none 0 0) Dn (L 11) (L 13) (L 14) w) a0 w0 (fun _ => undef) ⟨none, 0, w0.heap.size, 0, (fun h => by cases h), (fun h => by cases h), (fun h => by cases h), (fun h => by cases h), (fun h => by cases h), (fun h => by cases h), (fun h => by cases h), (fun h => by cases h), (fun h => by cases h), (fun h => by cases h), (fun h => by cases h), (fun h => by cases h), (fun h => by cases h), (fun h => by cases h), Nat.le_refl _, IoS.start w0 ss [] _ _ _⟩ (fun i => if i = 0 then some 63 else if i = 1 then some 64 else if i = 2 then some 65 else if i = 3 then some 66 else if i = 4 then some 67 else if i = 5 then some 68 else if i = 6 then some 69 else if i = 7 then some 70 else if i = 8 then some 71 else if i = 9 then some 72 else if i = 10 then some 73 else if i = 11 then some 74 else if i = 12 then some 75 else if i = 13 then some 6 else none) ?_ (by decide) (by show ∀ e ∈ [(0, 63), (1, 64), (2, 65), (3, 66), (4, 67), (5, 68), (6, 69), (7, 70), (8, 71), (9, 72), (10, 73), (11, 74), (12, 75), (13, 6)], e.1 < 15; decide) ?_ ?_
  · intro i hi k hk
    rcases hor i hi with rfl | rfl | rfl | rfl | rfl | rfl | rfl | rfl | rfl | rfl | rfl | rfl | rfl | rfl | rfl
    · rw [p0] at hk; simp at hk
    · rw [p1] at hk; simp at hk; omega
    · rw [p2] at hk; simp at hk
    · rw [p3] at hk; simp at hk; omega
    · rw [p4] at hk; simp at hk
    · rw [p5] at hk; simp at hk; omega
    · rw [p6] at hk; simp at hk
    · rw [p7] at hk; simp at hk; omega
    · rw [p8] at hk; simp at hk
    · rw [p9] at hk; simp at hk
    · rw [p10] at hk; simp at hk; omega
    · rw [p11] at hk; simp at hk; omega
    · rw [p12] at hk; simp at hk; omega
    · rw [p13] at hk; simp at hk
    · rw [p14] at hk; simp at hk; omega
  · intro i hi
    rcases hor i hi with rfl | rfl | rfl | rfl | rfl | rfl | rfl | rfl | rfl | rfl | rfl | rfl | rfl | rfl | rfl
    · exact .inl ⟨63, rfl, rfl, by decide⟩
    · exact .inl ⟨64, rfl, rfl, by decide⟩
    · exact .inl ⟨65, rfl, rfl, by decide⟩
    · exact .inl ⟨66, rfl, rfl, by decide⟩
    · exact .inl ⟨67, rfl, rfl, by decide⟩
    · exact .inl ⟨68, rfl, rfl, by decide⟩
    · exact .inl ⟨69, rfl, rfl, by decide⟩
    · exact .inl ⟨70, rfl, rfl, by decide⟩
    · exact .inl ⟨71, rfl, rfl, by decide⟩
    · exact .inl ⟨72, rfl, rfl, by decide⟩
    · exact .inl ⟨73, rfl, rfl, by decide⟩
    · exact .inl ⟨74, rfl, rfl, by decide⟩
    · exact .inl ⟨75, rfl, rfl, by decide⟩
    · exact .inl ⟨6, rfl, rfl, by decide⟩
    · exact .inr ⟨rfl, by decide⟩
  · intro i hi L val w hD hcl hLi hpi
    have hcf : ∀ j, j < 15 → ∀ k ∈ pres #[o0, o1, o2, o3, o4, o5, o6, o7, o8, o9, o10, o11, o12, o13, o14] j, L k = false → L j = false := fun j hj k hk hk0 => by
      cases e : L j with
      | false => rfl
      | true => have := hcl j hj e k hk; rw [hk0] at this; cases this
    rcases hor i hi with rfl | rfl | rfl | rfl | rfl | rfl | rfl | rfl | rfl | rfl | rfl | rfl | rfl | rfl | rfl
    · obtain ⟨g, c, q, Dn, q0, q1, q2, q3, q4, q5, q6, q7, q8, q9, q10, q11, q12, q13, hq, hS⟩ := hD
      refine wpOp_of o0 rfl g0 (o5_fL 0 (by decide) h0 (rdO rfl rA) ?_)
      exact ⟨(.pointer (some ⟨A, 0, none⟩)), by rw [d0]; rfl, ⟨g, c, q, Dn, (fun _ => by simp [upV]), (fun h => by simpa [upV] using q1 (by simpa [upL] using h)), (fun h => by simpa [upV] using q2 (by simpa [upL] using h)), (fun h => by simpa [upV] using q3 (by simpa [upL] using h)), (fun h => by simpa [upV] using q4 (by simpa [upL] using h)), (fun h => by simpa [upV] using q5 (by simpa [upL] using h)), (fun h => by simpa [upV] using q6 (by simpa [upL] using h)), (fun h => by simpa [upV] using q7 (by simpa [upL] using h)), (fun h => by simpa [upV] using q8 (by simpa [upL] using h)), (fun h => by simpa [upV] using q9 (by simpa [upL] using h)), (fun h => by simpa [upV] using q10 (by simpa [upL] using h)), (fun h => by simpa [upV] using q11 (by simpa [upL] using h)), (fun h => by simpa [upV] using q12 (by simpa [upL] using h)), (fun h => by simpa [upV] using q13 (by simpa [upL] using h)), hq, hS⟩⟩
    · obtain ⟨g, c, q, Dn, q0, q1, q2, q3, q4, q5, q6, q7, q8, q9, q10, q11, q12, q13, hq, hS⟩ := hD
      have t0 : L 0 = true := hpi 0 (by rw [p1]; simp)
      refine wpOp_of o1 rfl g1 (oL_ldI h1 (rdG (v := (.pointer (some ⟨A, 0, none⟩))) (by omega : 63 < a0.tmps.size) rfl t0 (q0 t0)) ((five_cells (keep hS.b hA)).1) ?_)
      exact ⟨(.int .i64 a0i), by rw [d1]; rfl, ⟨g, c, q, Dn, (fun h => by simpa [upV] using q0 (by simpa [upL] using h)), (fun _ => by simp [upV]), (fun h => by simpa [upV] using q2 (by simpa [upL] using h)), (fun h => by simpa [upV] using q3 (by simpa [upL] using h)), (fun h => by simpa [upV] using q4 (by simpa [upL] using h)), (fun h => by simpa [upV] using q5 (by simpa [upL] using h)), (fun h => by simpa [upV] using q6 (by simpa [upL] using h)), (fun h => by simpa [upV] using q7 (by simpa [upL] using h)), (fun h => by simpa [upV] using q8 (by simpa [upL] using h)), (fun h => by simpa [upV] using q9 (by simpa [upL] using h)), (fun h => by simpa [upV] using q10 (by simpa [upL] using h)), (fun h => by simpa [upV] using q11 (by simpa [upL] using h)), (fun h => by simpa [upV] using q12 (by simpa [upL] using h)), (fun h => by simpa [upV] using q13 (by simpa [upL] using h)), hq, hS⟩⟩
    · obtain ⟨g, c, q, Dn, q0, q1, q2, q3, q4, q5, q6, q7, q8, q9, q10, q11, q12, q13, hq, hS⟩ := hD
      refine wpOp_of o2 rfl g2 (o5_fL 1 (by decide) h2 (rdO rfl rA) ?_)
      exact ⟨(.pointer (some ⟨A, 1, none⟩)), by rw [d2]; rfl, ⟨g, c, q, Dn, (fun h => by simpa [upV] using q0 (by simpa [upL] using h)), (fun h => by simpa [upV] using q1 (by simpa [upL] using h)), (fun _ => by simp [upV]), (fun h => by simpa [upV] using q3 (by simpa [upL] using h)), (fun h => by simpa [upV] using q4 (by simpa [upL] using h)), (fun h => by simpa [upV] using q5 (by simpa [upL] using h)), (fun h => by simpa [upV] using q6 (by simpa [upL] using h)), (fun h => by simpa [upV] using q7 (by simpa [upL] using h)), (fun h => by simpa [upV] using q8 (by simpa [upL] using h)), (fun h => by simpa [upV] using q9 (by simpa [upL] using h)), (fun h => by simpa [upV] using q10 (by simpa [upL] using h)), (fun h => by simpa [upV] using q11 (by simpa [upL] using h)), (fun h => by simpa [upV] using q12 (by simpa [upL] using h)), (fun h => by simpa [upV] using q13 (by simpa [upL] using h)), hq, hS⟩⟩
    · obtain ⟨g, c, q, Dn, q0, q1, q2, q3, q4, q5, q6, q7, q8, q9, q10, q11, q12, q13, hq, hS⟩ := hD
      have t2 : L 2 = true := hpi 2 (by rw [p3]; simp)
      refine wpOp_of o3 rfl g3 (oL_ldI h3 (rdG (v := (.pointer (some ⟨A, 1, none⟩))) (by omega : 65 < a0.tmps.size) rfl t2 (q2 t2)) ((five_cells (keep hS.b hA)).2.1) ?_)
      exact ⟨(.int .i64 a1), by rw [d3]; rfl, ⟨g, c, q, Dn, (fun h => by simpa [upV] using q0 (by simpa [upL] using h)), (fun h => by simpa [upV] using q1 (by simpa [upL] using h)), (fun h => by simpa [upV] using q2 (by simpa [upL] using h)), (fun _ => by simp [upV]), (fun h => by simpa [upV] using q4 (by simpa [upL] using h)), (fun h => by simpa [upV] using q5 (by simpa [upL] using h)), (fun h => by simpa [upV] using q6 (by simpa [upL] using h)), (fun h => by simpa [upV] using q7 (by simpa [upL] using h)), (fun h => by simpa [upV] using q8 (by simpa [upL] using h)), (fun h => by simpa [upV] using q9 (by simpa [upL] using h)), (fun h => by simpa [upV] using q10 (by simpa [upL] using h)), (fun h => by simpa [upV] using q11 (by simpa [upL] using h)), (fun h => by simpa [upV] using q12 (by simpa [upL] using h)), (fun h => by simpa [upV] using q13 (by simpa [upL] using h)), hq, hS⟩⟩
    · obtain ⟨g, c, q, Dn, q0, q1, q2, q3, q4, q5, q6, q7, q8, q9, q10, q11, q12, q13, hq, hS⟩ := hD
      refine wpOp_of o4 rfl g4 (o5_fL 2 (by decide) h4 (rdO rfl rA) ?_)
      exact ⟨(.pointer (some ⟨A, 2, none⟩)), by rw [d4]; rfl, ⟨g, c, q, Dn, (fun h => by simpa [upV] using q0 (by simpa [upL] using h)), (fun h => by simpa [upV] using q1 (by simpa [upL] using h)), (fun h => by simpa [upV] using q2 (by simpa [upL] using h)), (fun h => by simpa [upV] using q3 (by simpa [upL] using h)), (fun _ => by simp [upV]), (fun h => by simpa [upV] using q5 (by simpa [upL] using h)), (fun h => by simpa [upV] using q6 (by simpa [upL] using h)), (fun h => by simpa [upV] using q7 (by simpa [upL] using h)), (fun h => by simpa [upV] using q8 (by simpa [upL] using h)), (fun h => by simpa [upV] using q9 (by simpa [upL] using h)), (fun h => by simpa [upV] using q10 (by simpa [upL] using h)), (fun h => by simpa [upV] using q11 (by simpa [upL] using h)), (fun h => by simpa [upV] using q12 (by simpa [upL] using h)), (fun h => by simpa [upV] using q13 (by simpa [upL] using h)), hq, hS⟩⟩
    · obtain ⟨g, c, q, Dn, q0, q1, q2, q3, q4, q5, q6, q7, q8, q9, q10, q11, q12, q13, hq, hS⟩ := hD
      have t4 : L 4 = true := hpi 4 (by rw [p5]; simp)
      refine wpOp_of o5 rfl g5 (oL_ldI h5 (rdG (v := (.pointer (some ⟨A, 2, none⟩))) (by omega : 67 < a0.tmps.size) rfl t4 (q4 t4)) ((five_cells (keep hS.b hA)).2.2.1) ?_)
      exact ⟨(.int .i64 a2), by rw [d5]; rfl, ⟨g, c, q, Dn, (fun h => by simpa [upV] using q0 (by simpa [upL] using h)), (fun h => by simpa [upV] using q1 (by simpa [upL] using h)), (fun h => by simpa [upV] using q2 (by simpa [upL] using h)), (fun h => by simpa [upV] using q3 (by simpa [upL] using h)), (fun h => by simpa [upV] using q4 (by simpa [upL] using h)), (fun _ => by simp [upV]), (fun h => by simpa [upV] using q6 (by simpa [upL] using h)), (fun h => by simpa [upV] using q7 (by simpa [upL] using h)), (fun h => by simpa [upV] using q8 (by simpa [upL] using h)), (fun h => by simpa [upV] using q9 (by simpa [upL] using h)), (fun h => by simpa [upV] using q10 (by simpa [upL] using h)), (fun h => by simpa [upV] using q11 (by simpa [upL] using h)), (fun h => by simpa [upV] using q12 (by simpa [upL] using h)), (fun h => by simpa [upV] using q13 (by simpa [upL] using h)), hq, hS⟩⟩
    · obtain ⟨g, c, q, Dn, q0, q1, q2, q3, q4, q5, q6, q7, q8, q9, q10, q11, q12, q13, hq, hS⟩ := hD
      refine wpOp_of o6 rfl g6 (o5_fL 4 (by decide) h6 (rdO rfl rA) ?_)
      exact ⟨(.pointer (some ⟨A, 4, none⟩)), by rw [d6]; rfl, ⟨g, c, q, Dn, (fun h => by simpa [upV] using q0 (by simpa [upL] using h)), (fun h => by simpa [upV] using q1 (by simpa [upL] using h)), (fun h => by simpa [upV] using q2 (by simpa [upL] using h)), (fun h => by simpa [upV] using q3 (by simpa [upL] using h)), (fun h => by simpa [upV] using q4 (by simpa [upL] using h)), (fun h => by simpa [upV] using q5 (by simpa [upL] using h)), (fun _ => by simp [upV]), (fun h => by simpa [upV] using q7 (by simpa [upL] using h)), (fun h => by simpa [upV] using q8 (by simpa [upL] using h)), (fun h => by simpa [upV] using q9 (by simpa [upL] using h)), (fun h => by simpa [upV] using q10 (by simpa [upL] using h)), (fun h => by simpa [upV] using q11 (by simpa [upL] using h)), (fun h => by simpa [upV] using q12 (by simpa [upL] using h)), (fun h => by simpa [upV] using q13 (by simpa [upL] using h)), hq, hS⟩⟩
    · obtain ⟨g, c, q, Dn, q0, q1, q2, q3, q4, q5, q6, q7, q8, q9, q10, q11, q12, q13, hq, hS⟩ := hD
      have t6 : L 6 = true := hpi 6 (by rw [p7]; simp)
      refine wpOp_of o7 rfl g7 (oL_ldI h7 (rdG (v := (.pointer (some ⟨A, 4, none⟩))) (by omega : 69 < a0.tmps.size) rfl t6 (q6 t6)) ((five_cells (keep hS.b hA)).2.2.2.2) ?_)
      exact ⟨(.int .i64 a4), by rw [d7]; rfl, ⟨g, c, q, Dn, (fun h => by simpa [upV] using q0 (by simpa [upL] using h)), (fun h => by simpa [upV] using q1 (by simpa [upL] using h)), (fun h => by simpa [upV] using q2 (by simpa [upL] using h)), (fun h => by simpa [upV] using q3 (by simpa [upL] using h)), (fun h => by simpa [upV] using q4 (by simpa [upL] using h)), (fun h => by simpa [upV] using q5 (by simpa [upL] using h)), (fun h => by simpa [upV] using q6 (by simpa [upL] using h)), (fun _ => by simp [upV]), (fun h => by simpa [upV] using q8 (by simpa [upL] using h)), (fun h => by simpa [upV] using q9 (by simpa [upL] using h)), (fun h => by simpa [upV] using q10 (by simpa [upL] using h)), (fun h => by simpa [upV] using q11 (by simpa [upL] using h)), (fun h => by simpa [upV] using q12 (by simpa [upL] using h)), (fun h => by simpa [upV] using q13 (by simpa [upL] using h)), hq, hS⟩⟩
    · obtain ⟨g, c, q, Dn, q0, q1, q2, q3, q4, q5, q6, q7, q8, q9, q10, q11, q12, q13, hq, hS⟩ := hD
      have n11 : L 11 = false := hcf 11 (by decide) 8 (by rw [p11]; simp) hLi
      have n12 : L 12 = false := hcf 12 (by decide) 11 (by rw [p12]; simp) n11
      have n14 : L 14 = false := hcf 14 (by decide) 11 (by rw [p14]; simp) n11
      refine wpOp_of o8 rfl g8 (o5_bs h8 ?_)
      have hS' := hS.below (box_below w (.cells #[] 2))
      exact ⟨(.slice (some ⟨w.heap.size, 0, none⟩) 0 0), by rw [d8]; rfl, ⟨g, c, w.heap.size, Dn, (fun h => by simpa [upV] using q0 (by simpa [upL] using h)), (fun h => by simpa [upV] using q1 (by simpa [upL] using h)), (fun h => by simpa [upV] using q2 (by simpa [upL] using h)), (fun h => by simpa [upV] using q3 (by simpa [upL] using h)), (fun h => by simpa [upV] using q4 (by simpa [upL] using h)), (fun h => by simpa [upV] using q5 (by simpa [upL] using h)), (fun h => by simpa [upV] using q6 (by simpa [upL] using h)), (fun h => by simpa [upV] using q7 (by simpa [upL] using h)), (fun _ => by simp [upV]), (fun h => by simpa [upV] using q9 (by simpa [upL] using h)), (fun h => by simpa [upV] using q10 (by simpa [upL] using h)), (fun h => by simpa [upV] using q11 (by simpa [upL] using h)), (fun h => by simpa [upV] using q12 (by simpa [upL] using h)), (fun h => by simpa [upV] using q13 (by simpa [upL] using h)), hS.b.size, hS'⟩⟩
    · obtain ⟨g, c, q, Dn, q0, q1, q2, q3, q4, q5, q6, q7, q8, q9, q10, q11, q12, q13, hq, hS⟩ := hD
      refine wpOp_of o9 rfl g9 (o5_fL 3 (by decide) h9 (rdO rfl rA) ?_)
      exact ⟨(.pointer (some ⟨A, 3, none⟩)), by rw [d9]; rfl, ⟨g, c, q, Dn, (fun h => by simpa [upV] using q0 (by simpa [upL] using h)), (fun h => by simpa [upV] using q1 (by simpa [upL] using h)), (fun h => by simpa [upV] using q2 (by simpa [upL] using h)), (fun h => by simpa [upV] using q3 (by simpa [upL] using h)), (fun h => by simpa [upV] using q4 (by simpa [upL] using h)), (fun h => by simpa [upV] using q5 (by simpa [upL] using h)), (fun h => by simpa [upV] using q6 (by simpa [upL] using h)), (fun h => by simpa [upV] using q7 (by simpa [upL] using h)), (fun h => by simpa [upV] using q8 (by simpa [upL] using h)), (fun _ => by simp [upV]), (fun h => by simpa [upV] using q10 (by simpa [upL] using h)), (fun h => by simpa [upV] using q11 (by simpa [upL] using h)), (fun h => by simpa [upV] using q12 (by simpa [upL] using h)), (fun h => by simpa [upV] using q13 (by simpa [upL] using h)), hq, hS⟩⟩
    · obtain ⟨g, c, q, Dn, q0, q1, q2, q3, q4, q5, q6, q7, q8, q9, q10, q11, q12, q13, hq, hS⟩ := hD
      have t9 : L 9 = true := hpi 9 (by rw [p10]; simp)
      refine wpOp_of o10 rfl g10 (o5_ldS h10 (rdG (v := (.pointer (some ⟨A, 3, none⟩))) (by omega : 72 < a0.tmps.size) rfl t9 (q9 t9)) ((five_cells (keep hS.b hA)).2.2.2.1) ?_)
      exact ⟨(.slice ga na ca), by rw [d10]; rfl, ⟨g, c, q, Dn, (fun h => by simpa [upV] using q0 (by simpa [upL] using h)), (fun h => by simpa [upV] using q1 (by simpa [upL] using h)), (fun h => by simpa [upV] using q2 (by simpa [upL] using h)), (fun h => by simpa [upV] using q3 (by simpa [upL] using h)), (fun h => by simpa [upV] using q4 (by simpa [upL] using h)), (fun h => by simpa [upV] using q5 (by simpa [upL] using h)), (fun h => by simpa [upV] using q6 (by simpa [upL] using h)), (fun h => by simpa [upV] using q7 (by simpa [upL] using h)), (fun h => by simpa [upV] using q8 (by simpa [upL] using h)), (fun h => by simpa [upV] using q9 (by simpa [upL] using h)), (fun _ => by simp [upV]), (fun h => by simpa [upV] using q11 (by simpa [upL] using h)), (fun h => by simpa [upV] using q12 (by simpa [upL] using h)), (fun h => by simpa [upV] using q13 (by simpa [upL] using h)), hq, hS⟩⟩
    · obtain ⟨g, c, q, Dn, q0, q1, q2, q3, q4, q5, q6, q7, q8, q9, q10, q11, q12, q13, hq, hS⟩ := hD
      have t8 : L 8 = true := hpi 8 (by rw [p11]; simp)
      have t10 : L 10 = true := hpi 10 (by rw [p11]; simp)
      have n12 : L 12 = false := hcf 12 (by decide) 11 (by rw [p12]; simp) hLi
      have n14 : L 14 = false := hcf 14 (by decide) 11 (by rw [p14]; simp) hLi
      rw [hLi, n14] at hS
      refine wpOp_of o11 rfl g11 (o5_app h11 (rdG (v := (.slice (some ⟨q, 0, none⟩) 0 0)) (by omega : 71 < a0.tmps.size) rfl t8 (q8 t8)) (rdG (v := (.slice ga na ca)) (by omega : 73 < a0.tmps.size) rfl t10 (q10 t10)) (sx.below hS.b) hl ?_)
      intro g' c' w' hk hc hb
      rw [hn] at hk hc ⊢
      have hS' : IoS w0 ss [] #[.int .i64 a0i, .int .i64 a1, .int .i64 a2, .slice g' na c', .int .i64 a4] (.slice g' na c') (.slice none 0 0) Dn true (L 13) false w' := by
        rcases hc with ⟨e1, e2⟩ | hc
        · exact (hS.below hb).called0 e1 hk (fun k ek => by rw [e2] at ek; cases ek; exact hq)
        · exact hS.called hb hk hc (Row.nil _ : SeesI w' (.slice none 0 0) []) (fun k e => by cases e)
      rw [← n14] at hS'
      exact ⟨(.slice g' na c'), by rw [d11]; rfl, ⟨g', c', q, Dn, (fun h => by simpa [upV] using q0 (by simpa [upL] using h)), (fun h => by simpa [upV] using q1 (by simpa [upL] using h)), (fun h => by simpa [upV] using q2 (by simpa [upL] using h)), (fun h => by simpa [upV] using q3 (by simpa [upL] using h)), (fun h => by simpa [upV] using q4 (by simpa [upL] using h)), (fun h => by simpa [upV] using q5 (by simpa [upL] using h)), (fun h => by simpa [upV] using q6 (by simpa [upL] using h)), (fun h => by simpa [upV] using q7 (by simpa [upL] using h)), (fun h => by simpa [upV] using q8 (by simpa [upL] using h)), (fun h => by simpa [upV] using q9 (by simpa [upL] using h)), (fun h => by simpa [upV] using q10 (by simpa [upL] using h)), (fun _ => by simp [upV]), (fun h => by rw [show upL L 11 12 = L 12 from rfl, n12] at h; cases h), (fun h => by simpa [upV] using q13 (by simpa [upL] using h)), hq, hS'⟩⟩
    · obtain ⟨g, c, q, Dn, q0, q1, q2, q3, q4, q5, q6, q7, q8, q9, q10, q11, q12, q13, hq, hS⟩ := hD
      have t1 : L 1 = true := hpi 1 (by rw [p12]; simp)
      have t3 : L 3 = true := hpi 3 (by rw [p12]; simp)
      have t5 : L 5 = true := hpi 5 (by rw [p12]; simp)
      have t7 : L 7 = true := hpi 7 (by rw [p12]; simp)
      have t11 : L 11 = true := hpi 11 (by rw [p12]; simp)
      refine wpOp_of o12 rfl g12 (o5_build h12 (rdG (v := (.int .i64 a0i)) (by omega : 64 < a0.tmps.size) rfl t1 (q1 t1)) (rdG (v := (.int .i64 a1)) (by omega : 66 < a0.tmps.size) rfl t3 (q3 t3)) (rdG (v := (.int .i64 a2)) (by omega : 68 < a0.tmps.size) rfl t5 (q5 t5)) (rdG (v := (.slice g na c)) (by omega : 74 < a0.tmps.size) rfl t11 (q11 t11)) (rdG (v := (.int .i64 a4)) (by omega : 70 < a0.tmps.size) rfl t7 (q7 t7)) ?_)
      exact ⟨(.agg #[.int .i64 a0i, .int .i64 a1, .int .i64 a2, .slice g na c, .int .i64 a4]), by rw [d12]; rfl, ⟨g, c, q, Dn, (fun h => by simpa [upV] using q0 (by simpa [upL] using h)), (fun h => by simpa [upV] using q1 (by simpa [upL] using h)), (fun h => by simpa [upV] using q2 (by simpa [upL] using h)), (fun h => by simpa [upV] using q3 (by simpa [upL] using h)), (fun h => by simpa [upV] using q4 (by simpa [upL] using h)), (fun h => by simpa [upV] using q5 (by simpa [upL] using h)), (fun h => by simpa [upV] using q6 (by simpa [upL] using h)), (fun h => by simpa [upV] using q7 (by simpa [upL] using h)), (fun h => by simpa [upV] using q8 (by simpa [upL] using h)), (fun h => by simpa [upV] using q9 (by simpa [upL] using h)), (fun h => by simpa [upV] using q10 (by simpa [upL] using h)), (fun h => by simpa [upV] using q11 (by simpa [upL] using h)), (fun _ => by simp [upV]), (fun h => by simpa [upV] using q13 (by simpa [upL] using h)), hq, hS⟩⟩
    · obtain ⟨g, c, q, Dn, q0, q1, q2, q3, q4, q5, q6, q7, q8, q9, q10, q11, q12, q13, hq, hS⟩ := hD
      have n14 : L 14 = false := hcf 14 (by decide) 13 (by rw [p14]; simp) hLi
      rw [hLi, n14] at hS
      refine wpOp_of o13 rfl g13 (oL_al h13 ?_)
      have hS' := hS.made
      rw [← n14] at hS'
      exact ⟨(.pointer (some ⟨w.heap.size, 0, none⟩)), by rw [d13]; rfl, ⟨g, c, q, w.heap.size, (fun h => by simpa [upV] using q0 (by simpa [upL] using h)), (fun h => by simpa [upV] using q1 (by simpa [upL] using h)), (fun h => by simpa [upV] using q2 (by simpa [upL] using h)), (fun h => by simpa [upV] using q3 (by simpa [upL] using h)), (fun h => by simpa [upV] using q4 (by simpa [upL] using h)), (fun h => by simpa [upV] using q5 (by simpa [upL] using h)), (fun h => by simpa [upV] using q6 (by simpa [upL] using h)), (fun h => by simpa [upV] using q7 (by simpa [upL] using h)), (fun h => by simpa [upV] using q8 (by simpa [upL] using h)), (fun h => by simpa [upV] using q9 (by simpa [upL] using h)), (fun h => by simpa [upV] using q10 (by simpa [upL] using h)), (fun h => by simpa [upV] using q11 (by simpa [upL] using h)), (fun h => by simpa [upV] using q12 (by simpa [upL] using h)), (fun _ => by simp [upV]), hq, hS'⟩⟩
    · obtain ⟨g, c, q, Dn, q0, q1, q2, q3, q4, q5, q6, q7, q8, q9, q10, q11, q12, q13, hq, hS⟩ := hD
      have t13 : L 13 = true := hpi 13 (by rw [p14]; simp)
      have t12 : L 12 = true := hpi 12 (by rw [p14]; simp)
      have t11 : L 11 = true := hpi 11 (by rw [p14]; simp)
      rw [t11, t13, hLi] at hS
      refine wpOp_of o14 rfl g14 (oL_stL h14 (rdG (v := (.pointer (some ⟨Dn, 0, none⟩))) (by omega : 6 < a0.tmps.size) rfl t13 (q13 t13)) (rdG (v := (.agg #[.int .i64 a0i, .int .i64 a1, .int .i64 a2, .slice g na c, .int .i64 a4])) (by omega : 75 < a0.tmps.size) rfl t12 (q12 t12)) (hS.z rfl rfl) ?_)
      exact ⟨undef, by rw [d14]; rfl, ⟨g, c, q, Dn, (fun h => by simpa [upV] using q0 (by simpa [upL] using h)), (fun h => by simpa [upV] using q1 (by simpa [upL] using h)), (fun h => by simpa [upV] using q2 (by simpa [upL] using h)), (fun h => by simpa [upV] using q3 (by simpa [upL] using h)), (fun h => by simpa [upV] using q4 (by simpa [upL] using h)), (fun h => by simpa [upV] using q5 (by simpa [upL] using h)), (fun h => by simpa [upV] using q6 (by simpa [upL] using h)), (fun h => by simpa [upV] using q7 (by simpa [upL] using h)), (fun h => by simpa [upV] using q8 (by simpa [upL] using h)), (fun h => by simpa [upV] using q9 (by simpa [upL] using h)), (fun h => by simpa [upV] using q10 (by simpa [upL] using h)), (fun h => by simpa [upV] using q11 (by simpa [upL] using h)), (fun h => by simpa [upV] using q12 (by simpa [upL] using h)), (fun h => by simpa [upV] using q13 (by simpa [upL] using h)), hq, (by simpa [upL, t11, t13] using hS.stored (.int .i64 a0i) (.int .i64 a1) (.int .i64 a2) (.slice g na c) (.int .i64 a4))⟩⟩
  · intro L val w hD hall
    obtain ⟨g, c, q, Dn, q0, q1, q2, q3, q4, q5, q6, q7, q8, q9, q10, q11, q12, q13, hq, hS⟩ := hD
    rw [hall 11 (by show 11 < 15; decide), hall 13 (by show 13 < 15; decide), hall 14 (by show 14 < 15; decide)] at hS
    simp only [putsL, List.foldl_cons, List.foldl_nil, q0 (hall 0 (by show 0 < 15; decide)), q1 (hall 1 (by show 1 < 15; decide)), q2 (hall 2 (by show 2 < 15; decide)), q3 (hall 3 (by show 3 < 15; decide)), q4 (hall 4 (by show 4 < 15; decide)), q5 (hall 5 (by show 5 < 15; decide)), q6 (hall 6 (by show 6 < 15; decide)), q7 (hall 7 (by show 7 < 15; decide)), q8 (hall 8 (by show 8 < 15; decide)), q9 (hall 9 (by show 9 < 15; decide)), q10 (hall 10 (by show 10 < 15; decide)), q11 (hall 11 (by show 11 < 15; decide)), q12 (hall 12 (by show 12 < 15; decide)), q13 (hall 13 (by show 13 < 15; decide))]
    exact hend g c q Dn w hS
end Go.Proofs.Ytbhgffbmeaomkaa.Gr
