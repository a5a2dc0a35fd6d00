/-
  Ends: regions of the law LinkComes that draw their order.
-/
import Derived.Test.YtbhgffbmeaomkaaRGA
namespace Go.Proofs.Ytbhgffbmeaomkaa.Gr
open Go.RowKit Go.Sort Lm
set_option linter.unusedVariables false

set_option maxRecDepth 20000 in
set_option maxHeartbeats 2000000 in
theorem rgc10 {o0 o1 o2 o3 o4 o5 o6 o7 o8 o9 o10 o11 : Oper} {id : Nat} {Q : Exit → Act → World → Prop} (A : Nat) (a0i a1 a2 a4 y0 y1 y2 y4 er wd : Int) (ga : Option Addr) (na ca ns : Nat) (ad : Addr) (xn xc k : Nat) (ss : List Int)
    (h0 : o0.op = Op.load 24 (Operand.tmp 4)) (d0 : o0.dst = some 40) (g0 : o0.guard = none)
    (h1 : o1.op = Op.move (Operand.tmp 0)) (d1 : o1.dst = some 41) (g1 : o1.guard = none)
    (h2 : o2.op = Op.move (Operand.tmp 9)) (d2 : o2.dst = some 42) (g2 : o2.guard = none)
    (h3 : o3.op = Op.indexAddr 22 (Operand.tmp 41) (Operand.tmp 42)) (d3 : o3.dst = some 43) (g3 : o3.guard = none)
    (h4 : o4.op = Op.load 2 (Operand.tmp 43)) (d4 : o4.dst = some 44) (g4 : o4.guard = none)
    (h5 : o5.op = Op.call { callee := Callee.value (Operand.func 17), args := #[Operand.tmp 40, Operand.tmp 44], argTypes := #[24, 2] }) (d5 : o5.dst = some 45) (g5 : o5.guard = none)
    (h6 : o6.op = Op.move (Operand.tmp 45)) (d6 : o6.dst = some 39) (g6 : o6.guard = none)
    (h7 : o7.op = Op.extract (Operand.tmp 39) 0) (d7 : o7.dst = some 46) (g7 : o7.guard = none)
    (h8 : o8.op = Op.extract (Operand.tmp 39) 1) (d8 : o8.dst = some 47) (g8 : o8.guard = none)
    (h9 : o9.op = Op.alloc 24) (d9 : o9.dst = some 10) (g9 : o9.guard = none)
    (h10 : o10.op = Op.store 24 (Operand.tmp 10) (Operand.tmp 46)) (d10 : o10.dst = none) (g10 : o10.guard = none)
    (h11 : o11.op = Op.assign (Operand.tmp 47)) (d11 : o11.dst = some 11) (g11 : o11.guard = none)
    (hp : (List.range 12).map (pres #[o0, o1, o2, o3, o4, o5, o6, o7, o8, o9, o10, o11]) = [[], [], [], [1, 2], [3], [0, 4], [5], [6], [6], [], [9, 7, 5, 0, 1, 2, 3, 4, 5, 6, 7, 9], [8, 10, 0, 1, 2, 3, 4, 5, 6, 7, 8, 9, 10]])
    (a0 : Act) (w0 : World) (hsz : 48 ≤ a0.tmps.size) (rA : a0.tmps[4]?.getD undef = .pointer (some ⟨A, 0, none⟩)) (rX : a0.tmps[0]?.getD undef = (.slice (some ad) xn xc)) (rI : a0.tmps[9]?.getD undef = (.int .i64 (k : Int))) (hk : k < xn)
    (hA : w0.heap[A]? = some (.cells #[.int .i64 a0i, .int .i64 a1, .int .i64 a2, .slice ga na ca, .int .i64 a4] 24 (0, 0))) (cW : ∀ u, Below w0.heap.size w0 u → u.cell? (ad.add k) = some (.int .i64 wd))
    (hI : ∀ u, Below w0.heap.size w0 u → Calls Try.prog 17 #[(.agg #[.int .i64 a0i, .int .i64 a1, .int .i64 a2, .slice ga na ca, .int .i64 a4]), (.int .i64 wd)] u fun e w' => ∃ g c, e = .returned (.tuple #[(.agg #[.int .i64 y0, .int .i64 y1, .int .i64 y2, .slice g ns c, .int .i64 y4]), .int .i64 er]) ∧ SeesI w' (.slice g ns c) ss ∧ New u.heap.size (.slice g ns c) ∧ Below u.heap.size u w')
    (hend : ∀ g c Dn u, IoS w0 ss [] #[.int .i64 y0, .int .i64 y1, .int .i64 y2, .slice g ns c, .int .i64 y4] (.slice g ns c) (.slice none 0 0) Dn true true true u → Q .normal (((((((((((a0.put (some 40) (.agg #[.int .i64 a0i, .int .i64 a1, .int .i64 a2, .slice ga na ca, .int .i64 a4])).put (some 41) (.slice (some ad) xn xc)).put (some 42) (.int .i64 (k : Int))).put (some 43) (.pointer (some (ad.add k)))).put (some 44) (.int .i64 wd)).put (some 45) (.tuple #[(.agg #[.int .i64 y0, .int .i64 y1, .int .i64 y2, .slice g ns c, .int .i64 y4]), .int .i64 er])).put (some 39) (.tuple #[(.agg #[.int .i64 y0, .int .i64 y1, .int .i64 y2, .slice g ns c, .int .i64 y4]), .int .i64 er])).put (some 46) (.agg #[.int .i64 y0, .int .i64 y1, .int .i64 y2, .slice g ns c, .int .i64 y4])).put (some 47) (.int .i64 er)).put (some 10) (.pointer (some ⟨Dn, 0, none⟩))).put (some 11) (.int .i64 er)) u) : (Code.region id #[o0, o1, o2, o3, o4, o5, o6, o7, o8, o9, o10, o11] true).wp Try.prog Q a0 w0 := by
  have p0 : pres #[o0, o1, o2, o3, o4, o5, o6, o7, o8, o9, o10, o11] 0 = [] := pres_of hp (by decide) rfl
  have p1 : pres #[o0, o1, o2, o3, o4, o5, o6, o7, o8, o9, o10, o11] 1 = [] := pres_of hp (by decide) rfl
  have p2 : pres #[o0, o1, o2, o3, o4, o5, o6, o7, o8, o9, o10, o11] 2 = [] := pres_of hp (by decide) rfl
  have p3 : pres #[o0, o1, o2, o3, o4, o5, o6, o7, o8, o9, o10, o11] 3 = [1, 2] := pres_of hp (by decide) rfl
  have p4 : pres #[o0, o1, o2, o3, o4, o5, o6, o7, o8, o9, o10, o11] 4 = [3] := pres_of hp (by decide) rfl
  have p5 : pres #[o0, o1, o2, o3, o4, o5, o6, o7, o8, o9, o10, o11] 5 = [0, 4] := pres_of hp (by decide) rfl
  have p6 : pres #[o0, o1, o2, o3, o4, o5, o6, o7, o8, o9, o10, o11] 6 = [5] := pres_of hp (by decide) rfl
  have p7 : pres #[o0, o1, o2, o3, o4, o5, o6, o7, o8, o9, o10, o11] 7 = [6] := pres_of hp (by decide) rfl
  have p8 : pres #[o0, o1, o2, o3, o4, o5, o6, o7, o8, o9, o10, o11] 8 = [6] := pres_of hp (by decide) rfl
  have p9 : pres #[o0, o1, o2, o3, o4, o5, o6, o7, o8, o9, o10, o11] 9 = [] := pres_of hp (by decide) rfl
  have p10 : pres #[o0, o1, o2, o3, o4, o5, o6, o7, o8, o9, o10, o11] 10 = [9, 7, 5, 0, 1, 2, 3, 4, 5, 6, 7, 9] := pres_of hp (by decide) rfl
  have p11 : pres #[o0, o1, o2, o3, o4, o5, o6, o7, o8, o9, o10, o11] 11 = [8, 10, 0, 1, 2, 3, 4, 5, 6, 7, 8, 9, 10] := pres_of hp (by decide) rfl
  have hor : ∀ i, i < 12 → i = 0 ∨ i = 1 ∨ i = 2 ∨ i = 3 ∨ i = 4 ∨ i = 5 ∨ i = 6 ∨ i = 7 ∨ i = 8 ∨ i = 9 ∨ i = 10 ∨ i = 11 := by omega
  refine wp_late (by kernel_rfl) ?_ [(0, 40), (1, 41), (2, 42), (3, 43), (4, 44), (5, 45), (6, 39), (7, 46), (8, 47), (9, 10), (11, 11)] (fun L val w => ∃ g c Dn, (L 0 = true → val 0 = (.agg #[.int .i64 a0i, .int .i64 a1, .int .i64 a2, .slice ga na ca, .int .i64 a4])) ∧ (L 1 = true → val 1 = (.slice (some ad) xn xc)) ∧ (L 2 = true → val 2 = (.int .i64 (k : Int))) ∧ (L 3 = true → val 3 = (.pointer (some (ad.add k)))) ∧ (L 4 = true → val 4 = (.int .i64 wd)) ∧ (L 5 = true → val 5 = (.tuple #[(.agg #[.int .i64 y0, .int .i64 y1, .int .i64 y2, .slice g ns c, .int .i64 y4]), .int .i64 er])) ∧ (L 6 = true → val 6 = (.tuple #[(.agg #[.int .i64 y0, .int .i64 y1, .int .i64 y2, .slice g ns c, .int .i64 y4]), .int .i64 er])) ∧ (L 7 = true → val 7 = (.agg #[.int .i64 y0, .int .i64 y1, .int .i64 y2, .slice g ns c, .int .i64 y4])) ∧ (L 8 = true → val 8 = (.int .i64 er)) ∧ (L 9 = true → val 9 = (.pointer (some ⟨Dn, 0, none⟩))) ∧ (L 11 = true → val 11 = (.int .i64 er)) ∧ IoS w0 ss [] #[.int .i64 y0, .int .i64 y1, .int .i64 y2, .slice g ns c, .int .i64 y4] (.slice g ns c) (.slice none 0 0) Dn (L 5) (L 9) (L 10) w) a0 w0 (fun _ => undef) ⟨none, 0, 0, (fun h => by cases h), (fun h => by cases h), (fun h => by cases h), (fun h => by cases h), (fun h => by cases h), (fun h => by cases h), (fun h => by cases h), (fun h => by cases h), (fun h => by cases h), (fun h => by cases h), (fun h => by cases h), IoS.start w0 ss [] _ _ _⟩ (fun i => if i = 0 then some 40 else if i = 1 then some 41 else if i = 2 then some 42 else if i = 3 then some 43 else if i = 4 then some 44 else if i = 5 then some 45 else if i = 6 then some 39 else if i = 7 then some 46 else if i = 8 then some 47 else if i = 9 then some 10 else if i = 11 then some 11 else none) ?_ (by decide) (by show ∀ e ∈ [(0, 40), (1, 41), (2, 42), (3, 43), (4, 44), (5, 45), (6, 39), (7, 46), (8, 47), (9, 10), (11, 11)], e.1 < 12; decide) ?_ ?_
  · intro i hi k hk
    rcases hor i hi with rfl | rfl | rfl | rfl | rfl | rfl | rfl | rfl | rfl | rfl | rfl | rfl
    · rw [p0] at hk; simp at hk
    · rw [p1] at hk; simp at hk
    · rw [p2] at hk; simp at hk
    · rw [p3] at hk; simp at hk; omega
    · rw [p4] at hk; simp at hk; omega
    · rw [p5] at hk; simp at hk; omega
    · rw [p6] at hk; simp at hk; omega
    · rw [p7] at hk; simp at hk; omega
    · rw [p8] at hk; simp at hk; omega
    · rw [p9] at hk; simp at hk
    · rw [p10] at hk; simp at hk; omega
    · rw [p11] at hk; simp at hk; omega
  · intro i hi
    rcases hor i hi with rfl | rfl | rfl | rfl | rfl | rfl | rfl | rfl | rfl | rfl | rfl | rfl
    · exact .inl ⟨40, rfl, rfl, by decide⟩
    · exact .inl ⟨41, rfl, rfl, by decide⟩
    · exact .inl ⟨42, rfl, rfl, by decide⟩
    · exact .inl ⟨43, rfl, rfl, by decide⟩
    · exact .inl ⟨44, rfl, rfl, by decide⟩
    · exact .inl ⟨45, rfl, rfl, by decide⟩
    · exact .inl ⟨39, rfl, rfl, by decide⟩
    · exact .inl ⟨46, rfl, rfl, by decide⟩
    · exact .inl ⟨47, rfl, rfl, by decide⟩
    · exact .inl ⟨10, rfl, rfl, by decide⟩
    · exact .inr ⟨rfl, by decide⟩
    · exact .inl ⟨11, rfl, rfl, by decide⟩
  · intro i hi L val w hD hcl hLi hpi
    have hcf : ∀ j, j < 12 → ∀ k ∈ pres #[o0, o1, o2, o3, o4, o5, o6, o7, o8, o9, o10, o11] j, L k = false → L j = false := fun j hj k hk hk0 => by
      cases e : L j with
      | false => rfl
      | true => have := hcl j hj e k hk; rw [hk0] at this; cases this
    rcases hor i hi with rfl | rfl | rfl | rfl | rfl | rfl | rfl | rfl | rfl | rfl | rfl | rfl
    · obtain ⟨g, c, Dn, q0, q1, q2, q3, q4, q5, q6, q7, q8, q9, q11, hS⟩ := hD
      refine wpOp_of o0 rfl g0 (oL_ldL h0 (rdO rfl rA) (five_cells (keep hS.b hA)) ?_)
      exact ⟨(.agg #[.int .i64 a0i, .int .i64 a1, .int .i64 a2, .slice ga na ca, .int .i64 a4]), by rw [d0]; rfl, ⟨g, c, Dn, (fun _ => by simp [upV]), (fun h => by simpa [upV] using q1 (by simpa [upL] using h)), (fun h => by simpa [upV] using q2 (by simpa [upL] using h)), (fun h => by simpa [upV] using q3 (by simpa [upL] using h)), (fun h => by simpa [upV] using q4 (by simpa [upL] using h)), (fun h => by simpa [upV] using q5 (by simpa [upL] using h)), (fun h => by simpa [upV] using q6 (by simpa [upL] using h)), (fun h => by simpa [upV] using q7 (by simpa [upL] using h)), (fun h => by simpa [upV] using q8 (by simpa [upL] using h)), (fun h => by simpa [upV] using q9 (by simpa [upL] using h)), (fun h => by simpa [upV] using q11 (by simpa [upL] using h)), hS⟩⟩
    · obtain ⟨g, c, Dn, q0, q1, q2, q3, q4, q5, q6, q7, q8, q9, q11, hS⟩ := hD
      refine wpOp_of o1 rfl g1 (oL_move h1 (rdO rfl rX) ?_)
      exact ⟨(.slice (some ad) xn xc), by rw [d1]; rfl, ⟨g, c, Dn, (fun h => by simpa [upV] using q0 (by simpa [upL] using h)), (fun _ => by simp [upV]), (fun h => by simpa [upV] using q2 (by simpa [upL] using h)), (fun h => by simpa [upV] using q3 (by simpa [upL] using h)), (fun h => by simpa [upV] using q4 (by simpa [upL] using h)), (fun h => by simpa [upV] using q5 (by simpa [upL] using h)), (fun h => by simpa [upV] using q6 (by simpa [upL] using h)), (fun h => by simpa [upV] using q7 (by simpa [upL] using h)), (fun h => by simpa [upV] using q8 (by simpa [upL] using h)), (fun h => by simpa [upV] using q9 (by simpa [upL] using h)), (fun h => by simpa [upV] using q11 (by simpa [upL] using h)), hS⟩⟩
    · obtain ⟨g, c, Dn, q0, q1, q2, q3, q4, q5, q6, q7, q8, q9, q11, hS⟩ := hD
      refine wpOp_of o2 rfl g2 (oL_move h2 (rdO rfl rI) ?_)
      exact ⟨(.int .i64 (k : Int)), by rw [d2]; rfl, ⟨g, c, Dn, (fun h => by simpa [upV] using q0 (by simpa [upL] using h)), (fun h => by simpa [upV] using q1 (by simpa [upL] using h)), (fun _ => by simp [upV]), (fun h => by simpa [upV] using q3 (by simpa [upL] using h)), (fun h => by simpa [upV] using q4 (by simpa [upL] using h)), (fun h => by simpa [upV] using q5 (by simpa [upL] using h)), (fun h => by simpa [upV] using q6 (by simpa [upL] using h)), (fun h => by simpa [upV] using q7 (by simpa [upL] using h)), (fun h => by simpa [upV] using q8 (by simpa [upL] using h)), (fun h => by simpa [upV] using q9 (by simpa [upL] using h)), (fun h => by simpa [upV] using q11 (by simpa [upL] using h)), hS⟩⟩
    · obtain ⟨g, c, Dn, q0, q1, q2, q3, q4, q5, q6, q7, q8, q9, q11, hS⟩ := hD
      have t1 : L 1 = true := hpi 1 (by rw [p3]; simp)
      have t2 : L 2 = true := hpi 2 (by rw [p3]; simp)
      refine wpOp_of o3 rfl g3 (oL_idx hk h3 (rdG (v := (.slice (some ad) xn xc)) (by omega : 41 < a0.tmps.size) rfl t1 (q1 t1)) (rdG (v := (.int .i64 (k : Int))) (by omega : 42 < a0.tmps.size) rfl t2 (q2 t2)) ?_)
      exact ⟨(.pointer (some (ad.add k))), by rw [d3]; rfl, ⟨g, c, Dn, (fun h => by simpa [upV] using q0 (by simpa [upL] using h)), (fun h => by simpa [upV] using q1 (by simpa [upL] using h)), (fun h => by simpa [upV] using q2 (by simpa [upL] using h)), (fun _ => by simp [upV]), (fun h => by simpa [upV] using q4 (by simpa [upL] using h)), (fun h => by simpa [upV] using q5 (by simpa [upL] using h)), (fun h => by simpa [upV] using q6 (by simpa [upL] using h)), (fun h => by simpa [upV] using q7 (by simpa [upL] using h)), (fun h => by simpa [upV] using q8 (by simpa [upL] using h)), (fun h => by simpa [upV] using q9 (by simpa [upL] using h)), (fun h => by simpa [upV] using q11 (by simpa [upL] using h)), hS⟩⟩
    · obtain ⟨g, c, Dn, q0, q1, q2, q3, q4, q5, q6, q7, q8, q9, q11, hS⟩ := hD
      have t3 : L 3 = true := hpi 3 (by rw [p4]; simp)
      refine wpOp_of o4 rfl g4 (oL_ldI h4 (rdG (v := (.pointer (some (ad.add k)))) (by omega : 43 < a0.tmps.size) rfl t3 (q3 t3)) (cW w hS.b) ?_)
      exact ⟨(.int .i64 wd), by rw [d4]; rfl, ⟨g, c, Dn, (fun h => by simpa [upV] using q0 (by simpa [upL] using h)), (fun h => by simpa [upV] using q1 (by simpa [upL] using h)), (fun h => by simpa [upV] using q2 (by simpa [upL] using h)), (fun h => by simpa [upV] using q3 (by simpa [upL] using h)), (fun _ => by simp [upV]), (fun h => by simpa [upV] using q5 (by simpa [upL] using h)), (fun h => by simpa [upV] using q6 (by simpa [upL] using h)), (fun h => by simpa [upV] using q7 (by simpa [upL] using h)), (fun h => by simpa [upV] using q8 (by simpa [upL] using h)), (fun h => by simpa [upV] using q9 (by simpa [upL] using h)), (fun h => by simpa [upV] using q11 (by simpa [upL] using h)), hS⟩⟩
    · obtain ⟨g, c, Dn, q0, q1, q2, q3, q4, q5, q6, q7, q8, q9, q11, hS⟩ := hD
      have t0 : L 0 = true := hpi 0 (by rw [p5]; simp)
      have t4 : L 4 = true := hpi 4 (by rw [p5]; simp)
      have n6 : L 6 = false := hcf 6 (by decide) 5 (by rw [p6]; simp) hLi
      have n7 : L 7 = false := hcf 7 (by decide) 6 (by rw [p7]; simp) n6
      have n8 : L 8 = false := hcf 8 (by decide) 6 (by rw [p8]; simp) n6
      have n10 : L 10 = false := hcf 10 (by decide) 5 (by rw [p10]; simp) hLi
      have n11 : L 11 = false := hcf 11 (by decide) 8 (by rw [p11]; simp) n8
      rw [hLi, n10] at hS
      refine wpOp_of o5 rfl g5 (oL_send h5 (rdG (v := (.agg #[.int .i64 a0i, .int .i64 a1, .int .i64 a2, .slice ga na ca, .int .i64 a4])) (by omega : 40 < a0.tmps.size) rfl t0 (q0 t0)) (rdG (v := (.int .i64 wd)) (by omega : 44 < a0.tmps.size) rfl t4 (q4 t4)) (hI w hS.b) ?_)
      rintro e w' ⟨g', c', rfl, k1, m1, hb⟩
      refine ⟨_, rfl, ?_⟩
      have hS' := hS.called hb k1 m1 (Row.nil _ : SeesI w' (.slice none 0 0) []) (fun k e => by cases e) (res' := #[.int .i64 y0, .int .i64 y1, .int .i64 y2, .slice g' ns c', .int .i64 y4])
      rw [← n10] at hS'
      exact ⟨(.tuple #[(.agg #[.int .i64 y0, .int .i64 y1, .int .i64 y2, .slice g' ns c', .int .i64 y4]), .int .i64 er]), by rw [d5]; rfl, ⟨g', c', Dn, (fun h => by simpa [upV] using q0 (by simpa [upL] using h)), (fun h => by simpa [upV] using q1 (by simpa [upL] using h)), (fun h => by simpa [upV] using q2 (by simpa [upL] using h)), (fun h => by simpa [upV] using q3 (by simpa [upL] using h)), (fun h => by simpa [upV] using q4 (by simpa [upL] using h)), (fun _ => by simp [upV]), (fun h => by rw [show upL L 5 6 = L 6 from rfl, n6] at h; cases h), (fun h => by rw [show upL L 5 7 = L 7 from rfl, n7] at h; cases h), (fun h => by rw [show upL L 5 8 = L 8 from rfl, n8] at h; cases h), (fun h => by simpa [upV] using q9 (by simpa [upL] using h)), (fun h => by rw [show upL L 5 11 = L 11 from rfl, n11] at h; cases h), hS'⟩⟩
    · obtain ⟨g, c, Dn, q0, q1, q2, q3, q4, q5, q6, q7, q8, q9, q11, hS⟩ := hD
      have t5 : L 5 = true := hpi 5 (by rw [p6]; simp)
      refine wpOp_of o6 rfl g6 (oL_move h6 (rdG (v := (.tuple #[(.agg #[.int .i64 y0, .int .i64 y1, .int .i64 y2, .slice g ns c, .int .i64 y4]), .int .i64 er])) (by omega : 45 < a0.tmps.size) rfl t5 (q5 t5)) ?_)
      exact ⟨(.tuple #[(.agg #[.int .i64 y0, .int .i64 y1, .int .i64 y2, .slice g ns c, .int .i64 y4]), .int .i64 er]), by rw [d6]; rfl, ⟨g, c, Dn, (fun h => by simpa [upV] using q0 (by simpa [upL] using h)), (fun h => by simpa [upV] using q1 (by simpa [upL] using h)), (fun h => by simpa [upV] using q2 (by simpa [upL] using h)), (fun h => by simpa [upV] using q3 (by simpa [upL] using h)), (fun h => by simpa [upV] using q4 (by simpa [upL] using h)), (fun h => by simpa [upV] using q5 (by simpa [upL] using h)), (fun _ => by simp [upV]), (fun h => by simpa [upV] using q7 (by simpa [upL] using h)), (fun h => by simpa [upV] using q8 (by simpa [upL] using h)), (fun h => by simpa [upV] using q9 (by simpa [upL] using h)), (fun h => by simpa [upV] using q11 (by simpa [upL] using h)), hS⟩⟩
    · obtain ⟨g, c, Dn, q0, q1, q2, q3, q4, q5, q6, q7, q8, q9, q11, hS⟩ := hD
      have t6 : L 6 = true := hpi 6 (by rw [p7]; simp)
      refine wpOp_of o7 rfl g7 (oL_ext0 h7 (rdG (v := (.tuple #[(.agg #[.int .i64 y0, .int .i64 y1, .int .i64 y2, .slice g ns c, .int .i64 y4]), .int .i64 er])) (by omega : 39 < a0.tmps.size) rfl t6 (q6 t6)) ?_)
      exact ⟨(.agg #[.int .i64 y0, .int .i64 y1, .int .i64 y2, .slice g ns c, .int .i64 y4]), by rw [d7]; rfl, ⟨g, c, Dn, (fun h => by simpa [upV] using q0 (by simpa [upL] using h)), (fun h => by simpa [upV] using q1 (by simpa [upL] using h)), (fun h => by simpa [upV] using q2 (by simpa [upL] using h)), (fun h => by simpa [upV] using q3 (by simpa [upL] using h)), (fun h => by simpa [upV] using q4 (by simpa [upL] using h)), (fun h => by simpa [upV] using q5 (by simpa [upL] using h)), (fun h => by simpa [upV] using q6 (by simpa [upL] using h)), (fun _ => by simp [upV]), (fun h => by simpa [upV] using q8 (by simpa [upL] using h)), (fun h => by simpa [upV] using q9 (by simpa [upL] using h)), (fun h => by simpa [upV] using q11 (by simpa [upL] using h)), hS⟩⟩
    · obtain ⟨g, c, Dn, q0, q1, q2, q3, q4, q5, q6, q7, q8, q9, q11, hS⟩ := hD
      have t6 : L 6 = true := hpi 6 (by rw [p8]; simp)
      refine wpOp_of o8 rfl g8 (oL_ext1 h8 (rdG (v := (.tuple #[(.agg #[.int .i64 y0, .int .i64 y1, .int .i64 y2, .slice g ns c, .int .i64 y4]), .int .i64 er])) (by omega : 39 < a0.tmps.size) rfl t6 (q6 t6)) ?_)
      exact ⟨(.int .i64 er), by rw [d8]; rfl, ⟨g, c, Dn, (fun h => by simpa [upV] using q0 (by simpa [upL] using h)), (fun h => by simpa [upV] using q1 (by simpa [upL] using h)), (fun h => by simpa [upV] using q2 (by simpa [upL] using h)), (fun h => by simpa [upV] using q3 (by simpa [upL] using h)), (fun h => by simpa [upV] using q4 (by simpa [upL] using h)), (fun h => by simpa [upV] using q5 (by simpa [upL] using h)), (fun h => by simpa [upV] using q6 (by simpa [upL] using h)), (fun h => by simpa [upV] using q7 (by simpa [upL] using h)), (fun _ => by simp [upV]), (fun h => by simpa [upV] using q9 (by simpa [upL] using h)), (fun h => by simpa [upV] using q11 (by simpa [upL] using h)), hS⟩⟩
    · obtain ⟨g, c, Dn, q0, q1, q2, q3, q4, q5, q6, q7, q8, q9, q11, hS⟩ := hD
      have n10 : L 10 = false := hcf 10 (by decide) 9 (by rw [p10]; simp) hLi
      rw [hLi, n10] at hS
      refine wpOp_of o9 rfl g9 (oL_al h9 ?_)
      have hS' := hS.made
      rw [← n10] at hS'
      exact ⟨(.pointer (some ⟨w.heap.size, 0, none⟩)), by rw [d9]; rfl, ⟨g, c, w.heap.size, (fun h => by simpa [upV] using q0 (by simpa [upL] using h)), (fun h => by simpa [upV] using q1 (by simpa [upL] using h)), (fun h => by simpa [upV] using q2 (by simpa [upL] using h)), (fun h => by simpa [upV] using q3 (by simpa [upL] using h)), (fun h => by simpa [upV] using q4 (by simpa [upL] using h)), (fun h => by simpa [upV] using q5 (by simpa [upL] using h)), (fun h => by simpa [upV] using q6 (by simpa [upL] using h)), (fun h => by simpa [upV] using q7 (by simpa [upL] using h)), (fun h => by simpa [upV] using q8 (by simpa [upL] using h)), (fun _ => by simp [upV]), (fun h => by simpa [upV] using q11 (by simpa [upL] using h)), hS'⟩⟩
    · obtain ⟨g, c, Dn, q0, q1, q2, q3, q4, q5, q6, q7, q8, q9, q11, hS⟩ := hD
      have t9 : L 9 = true := hpi 9 (by rw [p10]; simp)
      have t7 : L 7 = true := hpi 7 (by rw [p10]; simp)
      have t5 : L 5 = true := hpi 5 (by rw [p10]; simp)
      rw [t5, t9, hLi] at hS
      refine wpOp_of o10 rfl g10 (oL_stL h10 (rdG (v := (.pointer (some ⟨Dn, 0, none⟩))) (by omega : 10 < a0.tmps.size) rfl t9 (q9 t9)) (rdG (v := (.agg #[.int .i64 y0, .int .i64 y1, .int .i64 y2, .slice g ns c, .int .i64 y4])) (by omega : 46 < a0.tmps.size) rfl t7 (q7 t7)) (hS.z rfl rfl) ?_)
      exact ⟨undef, by rw [d10]; rfl, ⟨g, c, Dn, (fun h => by simpa [upV] using q0 (by simpa [upL] using h)), (fun h => by simpa [upV] using q1 (by simpa [upL] using h)), (fun h => by simpa [upV] using q2 (by simpa [upL] using h)), (fun h => by simpa [upV] using q3 (by simpa [upL] using h)), (fun h => by simpa [upV] using q4 (by simpa [upL] using h)), (fun h => by simpa [upV] using q5 (by simpa [upL] using h)), (fun h => by simpa [upV] using q6 (by simpa [upL] using h)), (fun h => by simpa [upV] using q7 (by simpa [upL] using h)), (fun h => by simpa [upV] using q8 (by simpa [upL] using h)), (fun h => by simpa [upV] using q9 (by simpa [upL] using h)), (fun h => by simpa [upV] using q11 (by simpa [upL] using h)), (by simpa [upL, t5, t9] using hS.stored (.int .i64 y0) (.int .i64 y1) (.int .i64 y2) (.slice g ns c) (.int .i64 y4))⟩⟩
    · obtain ⟨g, c, Dn, q0, q1, q2, q3, q4, q5, q6, q7, q8, q9, q11, hS⟩ := hD
      have t8 : L 8 = true := hpi 8 (by rw [p11]; simp)
      refine wpOp_of o11 rfl g11 (oL_assign h11 (rdG (v := (.int .i64 er)) (by omega : 47 < a0.tmps.size) rfl t8 (q8 t8)) ?_)
      exact ⟨(.int .i64 er), by rw [d11]; rfl, ⟨g, c, Dn, (fun h => by simpa [upV] using q0 (by simpa [upL] using h)), (fun h => by simpa [upV] using q1 (by simpa [upL] using h)), (fun h => by simpa [upV] using q2 (by simpa [upL] using h)), (fun h => by simpa [upV] using q3 (by simpa [upL] using h)), (fun h => by simpa [upV] using q4 (by simpa [upL] using h)), (fun h => by simpa [upV] using q5 (by simpa [upL] using h)), (fun h => by simpa [upV] using q6 (by simpa [upL] using h)), (fun h => by simpa [upV] using q7 (by simpa [upL] using h)), (fun h => by simpa [upV] using q8 (by simpa [upL] using h)), (fun h => by simpa [upV] using q9 (by simpa [upL] using h)), (fun _ => by simp [upV]), hS⟩⟩
  · intro L val w hD hall
    obtain ⟨g, c, Dn, q0, q1, q2, q3, q4, q5, q6, q7, q8, q9, q11, hS⟩ := hD
    rw [hall 5 (by show 5 < 12; decide), hall 9 (by show 9 < 12; decide), hall 10 (by show 10 < 12; decide)] at hS
    simp only [putsL, List.foldl_cons, List.foldl_nil, q0 (hall 0 (by show 0 < 12; decide)), q1 (hall 1 (by show 1 < 12; decide)), q2 (hall 2 (by show 2 < 12; decide)), q3 (hall 3 (by show 3 < 12; decide)), q4 (hall 4 (by show 4 < 12; decide)), q5 (hall 5 (by show 5 < 12; decide)), q6 (hall 6 (by show 6 < 12; decide)), q7 (hall 7 (by show 7 < 12; decide)), q8 (hall 8 (by show 8 < 12; decide)), q9 (hall 9 (by show 9 < 12; decide)), q11 (hall 11 (by show 11 < 12; decide))]
    exact hend g c Dn w hS
end Go.Proofs.Ytbhgffbmeaomkaa.Gr
