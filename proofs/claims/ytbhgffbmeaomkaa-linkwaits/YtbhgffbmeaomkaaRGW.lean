/-
  Ends: regions of the law LinkWaits that draw their order.
-/
import Derived.Test.YtbhgffbmeaomkaaRGO
namespace Go.Proofs.Ytbhgffbmeaomkaa.Gr
open Go.RowKit Go.Sort Lm
set_option linter.unusedVariables false

def WD_rgw9 (GI : Option Addr → Nat → World → Prop) (A : Nat) (y0 y1 y2 y4 : Int) (ns : Nat) (w0 : World) (g : Option Addr) (c : Nat) (L : Nat → Bool) (w : World) : Prop :=
  (L 5 = false ∧ L 9 = false ∧ w = w0.drew) ∨ (L 5 = true ∧ L 9 = false ∧ GI g c w) ∨ (L 5 = true ∧ L 9 = true ∧ ∃ w4, GI g c w4 ∧ w = (((((w4.setCell ⟨A, 0, none⟩ (.int .i64 y0)).setCell ⟨A, 1, none⟩ (.int .i64 y1)).setCell ⟨A, 2, none⟩ (.int .i64 y2)).setCell ⟨A, 3, none⟩ ((.slice g ns c))).setCell ⟨A, 4, none⟩ (.int .i64 y4)))
theorem WD_rgw9_up {GI : Option Addr → Nat → World → Prop} {A : Nat} {y0 y1 y2 y4 : Int} {ns : Nat} {w0 : World} {g : Option Addr} {c : Nat} {L : Nat → Bool} {w : World} {i : Nat} (h5 : 5 ≠ i) (h9 : 9 ≠ i) (h : WD_rgw9 GI A y0 y1 y2 y4 ns w0 g c L w) : WD_rgw9 GI A y0 y1 y2 y4 ns w0 g c (upL L i) w := by
  unfold WD_rgw9 upL at *
  simp only [if_neg h5, if_neg h9]
  exact h
set_option maxRecDepth 20000 in
set_option maxHeartbeats 2000000 in
theorem rgw9 {o0 o1 o2 o3 o4 o5 o6 o7 o8 o9 : Oper} {id : Nat} {Q : Exit → Act → World → Prop} (A : Nat) (a0i a1 a2 a4 y0 y1 y2 y4 er wd : Int) (ga : Option Addr) (na ca ns : Nat) (ad : Addr) (xn xc k : Nat)
    (h0 : o0.op = Op.load 24 (Operand.tmp 4)) (d0 : o0.dst = some 31) (g0 : o0.guard = none)
    (h1 : o1.op = Op.move (Operand.tmp 0)) (d1 : o1.dst = some 32) (g1 : o1.guard = none)
    (h2 : o2.op = Op.move (Operand.tmp 8)) (d2 : o2.dst = some 33) (g2 : o2.guard = none)
    (h3 : o3.op = Op.indexAddr 22 (Operand.tmp 32) (Operand.tmp 33)) (d3 : o3.dst = some 34) (g3 : o3.guard = none)
    (h4 : o4.op = Op.load 2 (Operand.tmp 34)) (d4 : o4.dst = some 35) (g4 : o4.guard = none)
    (h5 : o5.op = Op.call { callee := Callee.value (Operand.func 17), args := #[Operand.tmp 31, Operand.tmp 35], argTypes := #[24, 2] }) (d5 : o5.dst = some 36) (g5 : o5.guard = none)
    (h6 : o6.op = Op.move (Operand.tmp 36)) (d6 : o6.dst = some 30) (g6 : o6.guard = none)
    (h7 : o7.op = Op.extract (Operand.tmp 30) 0) (d7 : o7.dst = some 37) (g7 : o7.guard = none)
    (h8 : o8.op = Op.extract (Operand.tmp 30) 1) (d8 : o8.dst = some 38) (g8 : o8.guard = none)
    (h9 : o9.op = Op.store 24 (Operand.tmp 4) (Operand.tmp 37)) (d9 : o9.dst = none) (g9 : o9.guard = none)
    (hp : (List.range 10).map (pres #[o0, o1, o2, o3, o4, o5, o6, o7, o8, o9]) = [[], [], [], [1, 2], [3], [0, 4], [5], [6], [6], [7, 5, 0, 1, 2, 3, 4, 5, 6, 7]])
    (a0 : Act) (w0 : World) (hsz : 39 ≤ a0.tmps.size) (rA : a0.tmps[4]?.getD undef = .pointer (some ⟨A, 0, none⟩)) (rX : a0.tmps[0]?.getD undef = (.slice (some ad) xn xc)) (rI : a0.tmps[8]?.getD undef = (.int .i64 (k : Int))) (hk : k < xn)
    (cA : w0.cell? ⟨A, 0, none⟩ = some (.int .i64 a0i) ∧ w0.cell? ⟨A, 1, none⟩ = some (.int .i64 a1) ∧ w0.cell? ⟨A, 2, none⟩ = some (.int .i64 a2) ∧ w0.cell? ⟨A, 3, none⟩ = some (.slice ga na ca) ∧ w0.cell? ⟨A, 4, none⟩ = some (.int .i64 a4)) (cW : w0.cell? (ad.add k) = some (.int .i64 wd))
    (GI : Option Addr → Nat → World → Prop)
    (hI : Calls Try.prog 17 #[(.agg #[.int .i64 a0i, .int .i64 a1, .int .i64 a2, .slice ga na ca, .int .i64 a4]), (.int .i64 wd)] w0.drew fun e w' => ∃ g c, e = .returned (.tuple #[(.agg #[.int .i64 y0, .int .i64 y1, .int .i64 y2, .slice g ns c, .int .i64 y4]), .int .i64 er]) ∧ GI g c w')
    (hGI : ∀ g c u, GI g c u → ∃ z0 z1 z2 z3 z4 tt, u.heap[A]? = some (.cells #[z0, z1, z2, z3, z4] tt (0, 0)))
    (hend : ∀ g c w4, GI g c w4 → Q .normal (((((((((a0.put (some 31) (.agg #[.int .i64 a0i, .int .i64 a1, .int .i64 a2, .slice ga na ca, .int .i64 a4])).put (some 32) (.slice (some ad) xn xc)).put (some 33) (.int .i64 (k : Int))).put (some 34) (.pointer (some (ad.add k)))).put (some 35) (.int .i64 wd)).put (some 36) (.tuple #[(.agg #[.int .i64 y0, .int .i64 y1, .int .i64 y2, .slice g ns c, .int .i64 y4]), .int .i64 er])).put (some 30) (.tuple #[(.agg #[.int .i64 y0, .int .i64 y1, .int .i64 y2, .slice g ns c, .int .i64 y4]), .int .i64 er])).put (some 37) (.agg #[.int .i64 y0, .int .i64 y1, .int .i64 y2, .slice g ns c, .int .i64 y4])).put (some 38) (.int .i64 er)) (((((w4.setCell ⟨A, 0, none⟩ (.int .i64 y0)).setCell ⟨A, 1, none⟩ (.int .i64 y1)).setCell ⟨A, 2, none⟩ (.int .i64 y2)).setCell ⟨A, 3, none⟩ ((.slice g ns c))).setCell ⟨A, 4, none⟩ (.int .i64 y4))) : (Code.region id #[o0, o1, o2, o3, o4, o5, o6, o7, o8, o9] true).wp Try.prog Q a0 w0 := by
  have p0 : pres #[o0, o1, o2, o3, o4, o5, o6, o7, o8, o9] 0 = [] := pres_of hp (by decide) rfl
  have p1 : pres #[o0, o1, o2, o3, o4, o5, o6, o7, o8, o9] 1 = [] := pres_of hp (by decide) rfl
  have p2 : pres #[o0, o1, o2, o3, o4, o5, o6, o7, o8, o9] 2 = [] := pres_of hp (by decide) rfl
  have p3 : pres #[o0, o1, o2, o3, o4, o5, o6, o7, o8, o9] 3 = [1, 2] := pres_of hp (by decide) rfl
  have p4 : pres #[o0, o1, o2, o3, o4, o5, o6, o7, o8, o9] 4 = [3] := pres_of hp (by decide) rfl
  have p5 : pres #[o0, o1, o2, o3, o4, o5, o6, o7, o8, o9] 5 = [0, 4] := pres_of hp (by decide) rfl
  have p6 : pres #[o0, o1, o2, o3, o4, o5, o6, o7, o8, o9] 6 = [5] := pres_of hp (by decide) rfl
  have p7 : pres #[o0, o1, o2, o3, o4, o5, o6, o7, o8, o9] 7 = [6] := pres_of hp (by decide) rfl
  have p8 : pres #[o0, o1, o2, o3, o4, o5, o6, o7, o8, o9] 8 = [6] := pres_of hp (by decide) rfl
  have p9 : pres #[o0, o1, o2, o3, o4, o5, o6, o7, o8, o9] 9 = [7, 5, 0, 1, 2, 3, 4, 5, 6, 7] := pres_of hp (by decide) rfl
  have hor : ∀ i, i < 10 → i = 0 ∨ i = 1 ∨ i = 2 ∨ i = 3 ∨ i = 4 ∨ i = 5 ∨ i = 6 ∨ i = 7 ∨ i = 8 ∨ i = 9 := by omega
  refine wp_late (by kernel_rfl) ?_ [(0, 31), (1, 32), (2, 33), (3, 34), (4, 35), (5, 36), (6, 30), (7, 37), (8, 38)] (fun L val w => ∃ g c, (L 0 = true → val 0 = (.agg #[.int .i64 a0i, .int .i64 a1, .int .i64 a2, .slice ga na ca, .int .i64 a4])) ∧ (L 1 = true → val 1 = (.slice (some ad) xn xc)) ∧ (L 2 = true → val 2 = (.int .i64 (k : Int))) ∧ (L 3 = true → val 3 = (.pointer (some (ad.add k)))) ∧ (L 4 = true → val 4 = (.int .i64 wd)) ∧ (L 5 = true → val 5 = (.tuple #[(.agg #[.int .i64 y0, .int .i64 y1, .int .i64 y2, .slice g ns c, .int .i64 y4]), .int .i64 er])) ∧ (L 6 = true → val 6 = (.tuple #[(.agg #[.int .i64 y0, .int .i64 y1, .int .i64 y2, .slice g ns c, .int .i64 y4]), .int .i64 er])) ∧ (L 7 = true → val 7 = (.agg #[.int .i64 y0, .int .i64 y1, .int .i64 y2, .slice g ns c, .int .i64 y4])) ∧ (L 8 = true → val 8 = (.int .i64 er)) ∧ WD_rgw9 GI A y0 y1 y2 y4 ns w0 g c L w) a0 w0 (fun _ => undef) ⟨none, 0, (fun h => by cases h), (fun h => by cases h), (fun h => by cases h), (fun h => by cases h), (fun h => by cases h), (fun h => by cases h), (fun h => by cases h), (fun h => by cases h), (fun h => by cases h), .inl ⟨rfl, rfl, rfl⟩⟩ (fun i => if i = 0 then some 31 else if i = 1 then some 32 else if i = 2 then some 33 else if i = 3 then some 34 else if i = 4 then some 35 else if i = 5 then some 36 else if i = 6 then some 30 else if i = 7 then some 37 else if i = 8 then some 38 else none) ?_ (by decide) (by show ∀ e ∈ [(0, 31), (1, 32), (2, 33), (3, 34), (4, 35), (5, 36), (6, 30), (7, 37), (8, 38)], e.1 < 10; decide) ?_ ?_
  · intro i hi k hk
    rcases hor i hi with rfl | rfl | rfl | rfl | rfl | rfl | rfl | rfl | rfl | rfl
    · rw [p0] at hk; simp at hk
    · rw [p1] at hk; simp at hk
    · rw [p2] at hk; simp at hk
    · rw [p3] at hk; simp at hk; omega
    · rw [p4] at hk; simp at hk; omega
    · rw [p5] at hk; simp at hk; omega
    · rw [p6] at hk; simp at hk; omega
    · rw [p7] at hk; simp at hk; omega
    · rw [p8] at hk; simp at hk; omega
    · rw [p9] at hk; simp at hk; omega
  · intro i hi
    rcases hor i hi with rfl | rfl | rfl | rfl | rfl | rfl | rfl | rfl | rfl | rfl
    · exact .inl ⟨31, rfl, rfl, by decide⟩
    · exact .inl ⟨32, rfl, rfl, by decide⟩
    · exact .inl ⟨33, rfl, rfl, by decide⟩
    · exact .inl ⟨34, rfl, rfl, by decide⟩
    · exact .inl ⟨35, rfl, rfl, by decide⟩
    · exact .inl ⟨36, rfl, rfl, by decide⟩
    · exact .inl ⟨30, rfl, rfl, by decide⟩
    · exact .inl ⟨37, rfl, rfl, by decide⟩
    · exact .inl ⟨38, rfl, rfl, by decide⟩
    · exact .inr ⟨rfl, by decide⟩
  · intro i hi L val w hD hcl hLi hpi
    have hcf : ∀ j, j < 10 → ∀ k ∈ pres #[o0, o1, o2, o3, o4, o5, o6, o7, o8, o9] j, L k = false → L j = false := fun j hj k hk hk0 => by
      cases e : L j with
      | false => rfl
      | true => have := hcl j hj e k hk; rw [hk0] at this; cases this
    rcases hor i hi with rfl | rfl | rfl | rfl | rfl | rfl | rfl | rfl | rfl | rfl
    · obtain ⟨g, c, q0, q1, q2, q3, q4, q5, q6, q7, q8, hW⟩ := hD
      have n5 : L 5 = false := hcf 5 (by decide) 0 (by rw [p5]; simp) hLi
      obtain rfl : w = w0.drew := by
        rcases hW with ⟨_, _, e⟩ | ⟨e, _⟩ | ⟨e, _⟩
        · exact e
        all_goals (rw [n5] at e; cases e)
      refine wpOp_of o0 rfl g0 (oL_ldL h0 (rdO rfl rA) cA ?_)
      exact ⟨(.agg #[.int .i64 a0i, .int .i64 a1, .int .i64 a2, .slice ga na ca, .int .i64 a4]), by rw [d0]; rfl, ⟨g, c, (fun _ => by simp [upV]), (fun h => by simpa [upV] using q1 (by simpa [upL] using h)), (fun h => by simpa [upV] using q2 (by simpa [upL] using h)), (fun h => by simpa [upV] using q3 (by simpa [upL] using h)), (fun h => by simpa [upV] using q4 (by simpa [upL] using h)), (fun h => by simpa [upV] using q5 (by simpa [upL] using h)), (fun h => by simpa [upV] using q6 (by simpa [upL] using h)), (fun h => by simpa [upV] using q7 (by simpa [upL] using h)), (fun h => by simpa [upV] using q8 (by simpa [upL] using h)), WD_rgw9_up (by decide) (by decide) hW⟩⟩
    · obtain ⟨g, c, q0, q1, q2, q3, q4, q5, q6, q7, q8, hW⟩ := hD
      refine wpOp_of o1 rfl g1 (oL_move h1 (rdO rfl rX) ?_)
      exact ⟨(.slice (some ad) xn xc), by rw [d1]; rfl, ⟨g, c, (fun h => by simpa [upV] using q0 (by simpa [upL] using h)), (fun _ => by simp [upV]), (fun h => by simpa [upV] using q2 (by simpa [upL] using h)), (fun h => by simpa [upV] using q3 (by simpa [upL] using h)), (fun h => by simpa [upV] using q4 (by simpa [upL] using h)), (fun h => by simpa [upV] using q5 (by simpa [upL] using h)), (fun h => by simpa [upV] using q6 (by simpa [upL] using h)), (fun h => by simpa [upV] using q7 (by simpa [upL] using h)), (fun h => by simpa [upV] using q8 (by simpa [upL] using h)), WD_rgw9_up (by decide) (by decide) hW⟩⟩
    · obtain ⟨g, c, q0, q1, q2, q3, q4, q5, q6, q7, q8, hW⟩ := hD
      refine wpOp_of o2 rfl g2 (oL_move h2 (rdO rfl rI) ?_)
      exact ⟨(.int .i64 (k : Int)), by rw [d2]; rfl, ⟨g, c, (fun h => by simpa [upV] using q0 (by simpa [upL] using h)), (fun h => by simpa [upV] using q1 (by simpa [upL] using h)), (fun _ => by simp [upV]), (fun h => by simpa [upV] using q3 (by simpa [upL] using h)), (fun h => by simpa [upV] using q4 (by simpa [upL] using h)), (fun h => by simpa [upV] using q5 (by simpa [upL] using h)), (fun h => by simpa [upV] using q6 (by simpa [upL] using h)), (fun h => by simpa [upV] using q7 (by simpa [upL] using h)), (fun h => by simpa [upV] using q8 (by simpa [upL] using h)), WD_rgw9_up (by decide) (by decide) hW⟩⟩
    · obtain ⟨g, c, q0, q1, q2, q3, q4, q5, q6, q7, q8, hW⟩ := hD
      have t1 : L 1 = true := hpi 1 (by rw [p3]; simp)
      have t2 : L 2 = true := hpi 2 (by rw [p3]; simp)
      refine wpOp_of o3 rfl g3 (oL_idx hk h3 (rdG (v := (.slice (some ad) xn xc)) (by omega : 32 < a0.tmps.size) rfl t1 (q1 t1)) (rdG (v := (.int .i64 (k : Int))) (by omega : 33 < a0.tmps.size) rfl t2 (q2 t2)) ?_)
      exact ⟨(.pointer (some (ad.add k))), by rw [d3]; rfl, ⟨g, c, (fun h => by simpa [upV] using q0 (by simpa [upL] using h)), (fun h => by simpa [upV] using q1 (by simpa [upL] using h)), (fun h => by simpa [upV] using q2 (by simpa [upL] using h)), (fun _ => by simp [upV]), (fun h => by simpa [upV] using q4 (by simpa [upL] using h)), (fun h => by simpa [upV] using q5 (by simpa [upL] using h)), (fun h => by simpa [upV] using q6 (by simpa [upL] using h)), (fun h => by simpa [upV] using q7 (by simpa [upL] using h)), (fun h => by simpa [upV] using q8 (by simpa [upL] using h)), WD_rgw9_up (by decide) (by decide) hW⟩⟩
    · obtain ⟨g, c, q0, q1, q2, q3, q4, q5, q6, q7, q8, hW⟩ := hD
      have t3 : L 3 = true := hpi 3 (by rw [p4]; simp)
      have n5 : L 5 = false := hcf 5 (by decide) 4 (by rw [p5]; simp) hLi
      obtain rfl : w = w0.drew := by
        rcases hW with ⟨_, _, e⟩ | ⟨e, _⟩ | ⟨e, _⟩
        · exact e
        all_goals (rw [n5] at e; cases e)
      refine wpOp_of o4 rfl g4 (oL_ldI h4 (rdG (v := (.pointer (some (ad.add k)))) (by omega : 34 < a0.tmps.size) rfl t3 (q3 t3)) cW ?_)
      exact ⟨(.int .i64 wd), by rw [d4]; rfl, ⟨g, c, (fun h => by simpa [upV] using q0 (by simpa [upL] using h)), (fun h => by simpa [upV] using q1 (by simpa [upL] using h)), (fun h => by simpa [upV] using q2 (by simpa [upL] using h)), (fun h => by simpa [upV] using q3 (by simpa [upL] using h)), (fun _ => by simp [upV]), (fun h => by simpa [upV] using q5 (by simpa [upL] using h)), (fun h => by simpa [upV] using q6 (by simpa [upL] using h)), (fun h => by simpa [upV] using q7 (by simpa [upL] using h)), (fun h => by simpa [upV] using q8 (by simpa [upL] using h)), WD_rgw9_up (by decide) (by decide) hW⟩⟩
    · obtain ⟨g, c, q0, q1, q2, q3, q4, q5, q6, q7, q8, hW⟩ := hD
      have t0 : L 0 = true := hpi 0 (by rw [p5]; simp)
      have t4 : L 4 = true := hpi 4 (by rw [p5]; simp)
      have n6 : L 6 = false := hcf 6 (by decide) 5 (by rw [p6]; simp) hLi
      have n7 : L 7 = false := hcf 7 (by decide) 6 (by rw [p7]; simp) n6
      have n8 : L 8 = false := hcf 8 (by decide) 6 (by rw [p8]; simp) n6
      have n9 : L 9 = false := hcf 9 (by decide) 7 (by rw [p9]; simp) n7
      obtain rfl : w = w0.drew := by
        rcases hW with ⟨_, _, e⟩ | ⟨e, _⟩ | ⟨e, _⟩
        · exact e
        all_goals (rw [hLi] at e; cases e)
      refine wpOp_of o5 rfl g5 (oL_send h5 (rdG (v := (.agg #[.int .i64 a0i, .int .i64 a1, .int .i64 a2, .slice ga na ca, .int .i64 a4])) (by omega : 31 < a0.tmps.size) rfl t0 (q0 t0)) (rdG (v := (.int .i64 wd)) (by omega : 35 < a0.tmps.size) rfl t4 (q4 t4)) hI ?_)
      rintro e w' ⟨g', c', rfl, hx⟩
      refine ⟨_, rfl, ?_⟩
      exact ⟨(.tuple #[(.agg #[.int .i64 y0, .int .i64 y1, .int .i64 y2, .slice g' ns c', .int .i64 y4]), .int .i64 er]), by rw [d5]; rfl, ⟨g', c', (fun h => by simpa [upV] using q0 (by simpa [upL] using h)), (fun h => by simpa [upV] using q1 (by simpa [upL] using h)), (fun h => by simpa [upV] using q2 (by simpa [upL] using h)), (fun h => by simpa [upV] using q3 (by simpa [upL] using h)), (fun h => by simpa [upV] using q4 (by simpa [upL] using h)), (fun _ => by simp [upV]), (fun h => by rw [show upL L 5 6 = L 6 from rfl, n6] at h; cases h), (fun h => by rw [show upL L 5 7 = L 7 from rfl, n7] at h; cases h), (fun h => by rw [show upL L 5 8 = L 8 from rfl, n8] at h; cases h), .inr (.inl ⟨by simp [upL], by simp [upL, n9], hx⟩)⟩⟩
    · obtain ⟨g, c, q0, q1, q2, q3, q4, q5, q6, q7, q8, hW⟩ := hD
      have t5 : L 5 = true := hpi 5 (by rw [p6]; simp)
      refine wpOp_of o6 rfl g6 (oL_move h6 (rdG (v := (.tuple #[(.agg #[.int .i64 y0, .int .i64 y1, .int .i64 y2, .slice g ns c, .int .i64 y4]), .int .i64 er])) (by omega : 36 < a0.tmps.size) rfl t5 (q5 t5)) ?_)
      exact ⟨(.tuple #[(.agg #[.int .i64 y0, .int .i64 y1, .int .i64 y2, .slice g ns c, .int .i64 y4]), .int .i64 er]), by rw [d6]; rfl, ⟨g, c, (fun h => by simpa [upV] using q0 (by simpa [upL] using h)), (fun h => by simpa [upV] using q1 (by simpa [upL] using h)), (fun h => by simpa [upV] using q2 (by simpa [upL] using h)), (fun h => by simpa [upV] using q3 (by simpa [upL] using h)), (fun h => by simpa [upV] using q4 (by simpa [upL] using h)), (fun h => by simpa [upV] using q5 (by simpa [upL] using h)), (fun _ => by simp [upV]), (fun h => by simpa [upV] using q7 (by simpa [upL] using h)), (fun h => by simpa [upV] using q8 (by simpa [upL] using h)), WD_rgw9_up (by decide) (by decide) hW⟩⟩
    · obtain ⟨g, c, q0, q1, q2, q3, q4, q5, q6, q7, q8, hW⟩ := hD
      have t6 : L 6 = true := hpi 6 (by rw [p7]; simp)
      refine wpOp_of o7 rfl g7 (oL_ext0 h7 (rdG (v := (.tuple #[(.agg #[.int .i64 y0, .int .i64 y1, .int .i64 y2, .slice g ns c, .int .i64 y4]), .int .i64 er])) (by omega : 30 < a0.tmps.size) rfl t6 (q6 t6)) ?_)
      exact ⟨(.agg #[.int .i64 y0, .int .i64 y1, .int .i64 y2, .slice g ns c, .int .i64 y4]), by rw [d7]; rfl, ⟨g, c, (fun h => by simpa [upV] using q0 (by simpa [upL] using h)), (fun h => by simpa [upV] using q1 (by simpa [upL] using h)), (fun h => by simpa [upV] using q2 (by simpa [upL] using h)), (fun h => by simpa [upV] using q3 (by simpa [upL] using h)), (fun h => by simpa [upV] using q4 (by simpa [upL] using h)), (fun h => by simpa [upV] using q5 (by simpa [upL] using h)), (fun h => by simpa [upV] using q6 (by simpa [upL] using h)), (fun _ => by simp [upV]), (fun h => by simpa [upV] using q8 (by simpa [upL] using h)), WD_rgw9_up (by decide) (by decide) hW⟩⟩
    · obtain ⟨g, c, q0, q1, q2, q3, q4, q5, q6, q7, q8, hW⟩ := hD
      have t6 : L 6 = true := hpi 6 (by rw [p8]; simp)
      refine wpOp_of o8 rfl g8 (oL_ext1 h8 (rdG (v := (.tuple #[(.agg #[.int .i64 y0, .int .i64 y1, .int .i64 y2, .slice g ns c, .int .i64 y4]), .int .i64 er])) (by omega : 30 < a0.tmps.size) rfl t6 (q6 t6)) ?_)
      exact ⟨(.int .i64 er), by rw [d8]; rfl, ⟨g, c, (fun h => by simpa [upV] using q0 (by simpa [upL] using h)), (fun h => by simpa [upV] using q1 (by simpa [upL] using h)), (fun h => by simpa [upV] using q2 (by simpa [upL] using h)), (fun h => by simpa [upV] using q3 (by simpa [upL] using h)), (fun h => by simpa [upV] using q4 (by simpa [upL] using h)), (fun h => by simpa [upV] using q5 (by simpa [upL] using h)), (fun h => by simpa [upV] using q6 (by simpa [upL] using h)), (fun h => by simpa [upV] using q7 (by simpa [upL] using h)), (fun _ => by simp [upV]), WD_rgw9_up (by decide) (by decide) hW⟩⟩
    · obtain ⟨g, c, q0, q1, q2, q3, q4, q5, q6, q7, q8, hW⟩ := hD
      have t5 : L 5 = true := hpi 5 (by rw [p9]; simp)
      have t7 : L 7 = true := hpi 7 (by rw [p9]; simp)
      have hx : GI g c w := by
        rcases hW with ⟨e, _⟩ | ⟨_, _, e⟩ | ⟨_, e, _⟩
        · rw [t5] at e; cases e
        · exact e
        · rw [hLi] at e; cases e
      obtain ⟨z0, z1, z2, z3, z4, tt, hz⟩ := hGI g c w hx
      refine wpOp_of o9 rfl g9 (oL_stL h9 (rdO rfl rA) (rdG (v := (.agg #[.int .i64 y0, .int .i64 y1, .int .i64 y2, .slice g ns c, .int .i64 y4])) (by omega : 37 < a0.tmps.size) rfl t7 (q7 t7)) hz ?_)
      exact ⟨undef, by rw [d9]; rfl, ⟨g, c, (fun h => by simpa [upV] using q0 (by simpa [upL] using h)), (fun h => by simpa [upV] using q1 (by simpa [upL] using h)), (fun h => by simpa [upV] using q2 (by simpa [upL] using h)), (fun h => by simpa [upV] using q3 (by simpa [upL] using h)), (fun h => by simpa [upV] using q4 (by simpa [upL] using h)), (fun h => by simpa [upV] using q5 (by simpa [upL] using h)), (fun h => by simpa [upV] using q6 (by simpa [upL] using h)), (fun h => by simpa [upV] using q7 (by simpa [upL] using h)), (fun h => by simpa [upV] using q8 (by simpa [upL] using h)), .inr (.inr ⟨by simp [upL, t5], by simp [upL], w, hx, rfl⟩)⟩⟩
  · intro L val w hD hall
    obtain ⟨g, c, q0, q1, q2, q3, q4, q5, q6, q7, q8, hW⟩ := hD
    obtain ⟨w4, hx, rfl⟩ : ∃ w4, GI g c w4 ∧ w = (((((w4.setCell ⟨A, 0, none⟩ (.int .i64 y0)).setCell ⟨A, 1, none⟩ (.int .i64 y1)).setCell ⟨A, 2, none⟩ (.int .i64 y2)).setCell ⟨A, 3, none⟩ ((.slice g ns c))).setCell ⟨A, 4, none⟩ (.int .i64 y4)) := by
      rcases hW with ⟨e, _⟩ | ⟨_, e, _⟩ | ⟨_, _, e⟩
      · rw [hall 5 (by show 5 < 10; decide)] at e; cases e
      · rw [hall 9 (by show 9 < 10; decide)] at e; cases e
      · exact e
    simp only [putsL, List.foldl_cons, List.foldl_nil, q0 (hall 0 (by show 0 < 10; decide)), q1 (hall 1 (by show 1 < 10; decide)), q2 (hall 2 (by show 2 < 10; decide)), q3 (hall 3 (by show 3 < 10; decide)), q4 (hall 4 (by show 4 < 10; decide)), q5 (hall 5 (by show 5 < 10; decide)), q6 (hall 6 (by show 6 < 10; decide)), q7 (hall 7 (by show 7 < 10; decide)), q8 (hall 8 (by show 8 < 10; decide))]
    exact hend g c w4 hx
def WD_rgw10 (GO : Value → World → Prop) (GI : Option Addr → Nat → Value → World → Prop) (C : Nat) (y0 y1 y2 y4 : Int) (ns : Nat) (w0 : World) (v : Value) (g : Option Addr) (c : Nat) (vt : Value) (L : Nat → Bool) (w : World) : Prop :=
  (L 2 = false ∧ L 3 = false ∧ L 7 = false ∧ w = w0.drew) ∨ (L 2 = true ∧ L 3 = false ∧ L 7 = false ∧ GO v w) ∨ (L 3 = true ∧ L 7 = false ∧ GI g c vt w) ∨ (L 3 = true ∧ L 7 = true ∧ ∃ w4, GI g c vt w4 ∧ w = (((((w4.setCell ⟨C, 0, none⟩ (.int .i64 y0)).setCell ⟨C, 1, none⟩ (.int .i64 y1)).setCell ⟨C, 2, none⟩ (.int .i64 y2)).setCell ⟨C, 3, none⟩ ((.slice g ns c))).setCell ⟨C, 4, none⟩ (.int .i64 y4)))
theorem WD_rgw10_up {GO : Value → World → Prop} {GI : Option Addr → Nat → Value → World → Prop} {C : Nat} {y0 y1 y2 y4 : Int} {ns : Nat} {w0 : World} {v : Value} {g : Option Addr} {c : Nat} {vt : Value} {L : Nat → Bool} {w : World} {i : Nat} (h2 : 2 ≠ i) (h3 : 3 ≠ i) (h7 : 7 ≠ i) (h : WD_rgw10 GO GI C y0 y1 y2 y4 ns w0 v g c vt L w) : WD_rgw10 GO GI C y0 y1 y2 y4 ns w0 v g c vt (upL L i) w := by
  unfold WD_rgw10 upL at *
  simp only [if_neg h2, if_neg h3, if_neg h7]
  exact h
set_option maxRecDepth 20000 in
set_option maxHeartbeats 2000000 in
theorem rgw10 {o0 o1 o2 o3 o4 o5 o6 o7 o8 : Oper} {id : Nat} {Q : Exit → Act → World → Prop} (A C : Nat) (a0i a1 a2 a4 c0 c1 c2 c4 y0 y1 y2 y4 : Int) (ga gc : Option Addr) (na ca nc cc ns : Nat)
    (h0 : o0.op = Op.load 24 (Operand.tmp 6)) (d0 : o0.dst = some 40) (g0 : o0.guard = none)
    (h1 : o1.op = Op.load 24 (Operand.tmp 4)) (d1 : o1.dst = some 41) (g1 : o1.guard = none)
    (h2 : o2.op = Op.call { callee := Callee.value (Operand.func 23), args := #[Operand.tmp 41], argTypes := #[24] }) (d2 : o2.dst = some 42) (g2 : o2.guard = none)
    (h3 : o3.op = Op.call { callee := Callee.value (Operand.func 19), args := #[Operand.tmp 40, Operand.tmp 42], argTypes := #[24, 26] }) (d3 : o3.dst = some 43) (g3 : o3.guard = none)
    (h4 : o4.op = Op.move (Operand.tmp 43)) (d4 : o4.dst = some 39) (g4 : o4.guard = none)
    (h5 : o5.op = Op.extract (Operand.tmp 39) 0) (d5 : o5.dst = some 44) (g5 : o5.guard = none)
    (h6 : o6.op = Op.extract (Operand.tmp 39) 1) (d6 : o6.dst = some 45) (g6 : o6.guard = none)
    (h7 : o7.op = Op.store 24 (Operand.tmp 6) (Operand.tmp 44)) (d7 : o7.dst = none) (g7 : o7.guard = none)
    (h8 : o8.op = Op.assign (Operand.tmp 45)) (d8 : o8.dst = some 9) (g8 : o8.guard = none)
    (hp : (List.range 9).map (pres #[o0, o1, o2, o3, o4, o5, o6, o7, o8]) = [[], [], [1], [0, 2, 2], [3], [4], [4], [5, 3, 0, 1, 2, 3, 4, 5], [6, 7, 0, 1, 2, 3, 4, 5, 6, 7]])
    (a0 : Act) (w0 : World) (hsz : 46 ≤ a0.tmps.size) (rC : a0.tmps[6]?.getD undef = .pointer (some ⟨C, 0, none⟩)) (rA : a0.tmps[4]?.getD undef = .pointer (some ⟨A, 0, none⟩))
    (cA : w0.cell? ⟨A, 0, none⟩ = some (.int .i64 a0i) ∧ w0.cell? ⟨A, 1, none⟩ = some (.int .i64 a1) ∧ w0.cell? ⟨A, 2, none⟩ = some (.int .i64 a2) ∧ w0.cell? ⟨A, 3, none⟩ = some (.slice ga na ca) ∧ w0.cell? ⟨A, 4, none⟩ = some (.int .i64 a4)) (cC : w0.cell? ⟨C, 0, none⟩ = some (.int .i64 c0) ∧ w0.cell? ⟨C, 1, none⟩ = some (.int .i64 c1) ∧ w0.cell? ⟨C, 2, none⟩ = some (.int .i64 c2) ∧ w0.cell? ⟨C, 3, none⟩ = some (.slice gc nc cc) ∧ w0.cell? ⟨C, 4, none⟩ = some (.int .i64 c4))
    (GO : Value → World → Prop) (GI : Option Addr → Nat → Value → World → Prop)
    (hO : Calls Try.prog 23 #[(.agg #[.int .i64 a0i, .int .i64 a1, .int .i64 a2, .slice ga na ca, .int .i64 a4])] w0.drew fun e w' => ∃ v, e = .returned v ∧ GO v w') (hGO : ∀ v u, GO v u → u.cell? ⟨C, 0, none⟩ = some (.int .i64 c0) ∧ u.cell? ⟨C, 1, none⟩ = some (.int .i64 c1) ∧ u.cell? ⟨C, 2, none⟩ = some (.int .i64 c2) ∧ u.cell? ⟨C, 3, none⟩ = some (.slice gc nc cc) ∧ u.cell? ⟨C, 4, none⟩ = some (.int .i64 c4))
    (hI : ∀ v u, GO v u → Calls Try.prog 19 #[(.agg #[.int .i64 c0, .int .i64 c1, .int .i64 c2, .slice gc nc cc, .int .i64 c4]), v] u fun e w' => ∃ g c vt, e = .returned (.tuple #[(.agg #[.int .i64 y0, .int .i64 y1, .int .i64 y2, .slice g ns c, .int .i64 y4]), vt]) ∧ GI g c vt w')
    (hGI : ∀ g c vt u, GI g c vt u → ∃ z0 z1 z2 z3 z4 tt, u.heap[C]? = some (.cells #[z0, z1, z2, z3, z4] tt (0, 0)))
    (hend : ∀ v g c vt w4, GI g c vt w4 → Q .normal ((((((((a0.put (some 40) (.agg #[.int .i64 c0, .int .i64 c1, .int .i64 c2, .slice gc nc cc, .int .i64 c4])).put (some 41) (.agg #[.int .i64 a0i, .int .i64 a1, .int .i64 a2, .slice ga na ca, .int .i64 a4])).put (some 42) v).put (some 43) (.tuple #[(.agg #[.int .i64 y0, .int .i64 y1, .int .i64 y2, .slice g ns c, .int .i64 y4]), vt])).put (some 39) (.tuple #[(.agg #[.int .i64 y0, .int .i64 y1, .int .i64 y2, .slice g ns c, .int .i64 y4]), vt])).put (some 44) (.agg #[.int .i64 y0, .int .i64 y1, .int .i64 y2, .slice g ns c, .int .i64 y4])).put (some 45) vt).put (some 9) vt) (((((w4.setCell ⟨C, 0, none⟩ (.int .i64 y0)).setCell ⟨C, 1, none⟩ (.int .i64 y1)).setCell ⟨C, 2, none⟩ (.int .i64 y2)).setCell ⟨C, 3, none⟩ ((.slice g ns c))).setCell ⟨C, 4, none⟩ (.int .i64 y4))) : (Code.region id #[o0, o1, o2, o3, o4, o5, o6, o7, o8] true).wp Try.prog Q a0 w0 := by
  have p0 : pres #[o0, o1, o2, o3, o4, o5, o6, o7, o8] 0 = [] := pres_of hp (by decide) rfl
  have p1 : pres #[o0, o1, o2, o3, o4, o5, o6, o7, o8] 1 = [] := pres_of hp (by decide) rfl
  have p2 : pres #[o0, o1, o2, o3, o4, o5, o6, o7, o8] 2 = [1] := pres_of hp (by decide) rfl
  have p3 : pres #[o0, o1, o2, o3, o4, o5, o6, o7, o8] 3 = [0, 2, 2] := pres_of hp (by decide) rfl
  have p4 : pres #[o0, o1, o2, o3, o4, o5, o6, o7, o8] 4 = [3] := pres_of hp (by decide) rfl
  have p5 : pres #[o0, o1, o2, o3, o4, o5, o6, o7, o8] 5 = [4] := pres_of hp (by decide) rfl
  have p6 : pres #[o0, o1, o2, o3, o4, o5, o6, o7, o8] 6 = [4] := pres_of hp (by decide) rfl
  have p7 : pres #[o0, o1, o2, o3, o4, o5, o6, o7, o8] 7 = [5, 3, 0, 1, 2, 3, 4, 5] := pres_of hp (by decide) rfl
  have p8 : pres #[o0, o1, o2, o3, o4, o5, o6, o7, o8] 8 = [6, 7, 0, 1, 2, 3, 4, 5, 6, 7] := pres_of hp (by decide) rfl
  have hor : ∀ i, i < 9 → i = 0 ∨ i = 1 ∨ i = 2 ∨ i = 3 ∨ i = 4 ∨ i = 5 ∨ i = 6 ∨ i = 7 ∨ i = 8 := by omega
  refine wp_late (by kernel_rfl) ?_ [(0, 40), (1, 41), (2, 42), (3, 43), (4, 39), (5, 44), (6, 45), (8, 9)] (fun L val w => ∃ v g c vt, (L 0 = true → val 0 = (.agg #[.int .i64 c0, .int .i64 c1, .int .i64 c2, .slice gc nc cc, .int .i64 c4])) ∧ (L 1 = true → val 1 = (.agg #[.int .i64 a0i, .int .i64 a1, .int .i64 a2, .slice ga na ca, .int .i64 a4])) ∧ (L 2 = true → val 2 = v) ∧ (L 3 = true → val 3 = (.tuple #[(.agg #[.int .i64 y0, .int .i64 y1, .int .i64 y2, .slice g ns c, .int .i64 y4]), vt])) ∧ (L 4 = true → val 4 = (.tuple #[(.agg #[.int .i64 y0, .int .i64 y1, .int .i64 y2, .slice g ns c, .int .i64 y4]), vt])) ∧ (L 5 = true → val 5 = (.agg #[.int .i64 y0, .int .i64 y1, .int .i64 y2, .slice g ns c, .int .i64 y4])) ∧ (L 6 = true → val 6 = vt) ∧ (L 8 = true → val 8 = vt) ∧ WD_rgw10 GO GI C y0 y1 y2 y4 ns w0 v g c vt L w) a0 w0 (fun _ => undef) ⟨undef, none, 0, undef, (fun h => by cases h), (fun h => by cases h), (fun h => by cases h), (fun h => by cases h), (fun h => by cases h), (fun h => by cases h), (fun h => by cases h), (fun h => by cases h), .inl ⟨rfl, rfl, rfl, rfl⟩⟩ (fun i => if i = 0 then some 40 else if i = 1 then some 41 else if i = 2 then some 42 else if i = 3 then some 43 else if i = 4 then some 39 else if i = 5 then some 44 else if i = 6 then some 45 else if i = 8 then some 9 else none) ?_ (by decide) (by show ∀ e ∈ [(0, 40), (1, 41), (2, 42), (3, 43), (4, 39), (5, 44), (6, 45), (8, 9)], e.1 < 9; decide) ?_ ?_
  · intro i hi k hk
    rcases hor i hi with rfl | rfl | rfl | rfl | rfl | rfl | rfl | rfl | rfl
    · rw [p0] at hk; simp at hk
    · rw [p1] at hk; simp at hk
    · rw [p2] at hk; simp at hk; omega
    · rw [p3] at hk; simp at hk; omega
    · rw [p4] at hk; simp at hk; omega
    · rw [p5] at hk; simp at hk; omega
    · rw [p6] at hk; simp at hk; omega
    · rw [p7] at hk; simp at hk; omega
    · rw [p8] at hk; simp at hk; omega
  · intro i hi
    rcases hor i hi with rfl | rfl | rfl | rfl | rfl | rfl | rfl | rfl | rfl
    · exact .inl ⟨40, rfl, rfl, by decide⟩
    · exact .inl ⟨41, rfl, rfl, by decide⟩
    · exact .inl ⟨42, rfl, rfl, by decide⟩
    · exact .inl ⟨43, rfl, rfl, by decide⟩
    · exact .inl ⟨39, rfl, rfl, by decide⟩
    · exact .inl ⟨44, rfl, rfl, by decide⟩
    · exact .inl ⟨45, rfl, rfl, by decide⟩
    · exact .inr ⟨rfl, by decide⟩
    · exact .inl ⟨9, rfl, rfl, by decide⟩
  · intro i hi L val w hD hcl hLi hpi
    have hcf : ∀ j, j < 9 → ∀ k ∈ pres #[o0, o1, o2, o3, o4, o5, o6, o7, o8] j, L k = false → L j = false := fun j hj k hk hk0 => by
      cases e : L j with
      | false => rfl
      | true => have := hcl j hj e k hk; rw [hk0] at this; cases this
    rcases hor i hi with rfl | rfl | rfl | rfl | rfl | rfl | rfl | rfl | rfl
    · obtain ⟨v, g, c, vt, q0, q1, q2, q3, q4, q5, q6, q8, hW⟩ := hD
      have n3 : L 3 = false := hcf 3 (by decide) 0 (by rw [p3]; simp) hLi
      have n7 : L 7 = false := hcf 7 (by decide) 3 (by rw [p7]; simp) n3
      have hc : w.cell? ⟨C, 0, none⟩ = some (.int .i64 c0) ∧ w.cell? ⟨C, 1, none⟩ = some (.int .i64 c1) ∧ w.cell? ⟨C, 2, none⟩ = some (.int .i64 c2) ∧ w.cell? ⟨C, 3, none⟩ = some (.slice gc nc cc) ∧ w.cell? ⟨C, 4, none⟩ = some (.int .i64 c4) := by
        rcases hW with ⟨_, _, _, rfl⟩ | ⟨_, _, _, e⟩ | ⟨e, _⟩ | ⟨e, _⟩
        · exact cC
        · exact hGO _ _ e
        all_goals (rw [n3] at e; cases e)
      refine wpOp_of o0 rfl g0 (oL_ldL h0 (rdO rfl rC) hc ?_)
      exact ⟨(.agg #[.int .i64 c0, .int .i64 c1, .int .i64 c2, .slice gc nc cc, .int .i64 c4]), by rw [d0]; rfl, ⟨v, g, c, vt, (fun _ => by simp [upV]), (fun h => by simpa [upV] using q1 (by simpa [upL] using h)), (fun h => by simpa [upV] using q2 (by simpa [upL] using h)), (fun h => by simpa [upV] using q3 (by simpa [upL] using h)), (fun h => by simpa [upV] using q4 (by simpa [upL] using h)), (fun h => by simpa [upV] using q5 (by simpa [upL] using h)), (fun h => by simpa [upV] using q6 (by simpa [upL] using h)), (fun h => by simpa [upV] using q8 (by simpa [upL] using h)), WD_rgw10_up (by decide) (by decide) (by decide) hW⟩⟩
    · obtain ⟨v, g, c, vt, q0, q1, q2, q3, q4, q5, q6, q8, hW⟩ := hD
      have n2 : L 2 = false := hcf 2 (by decide) 1 (by rw [p2]; simp) hLi
      have n3 : L 3 = false := hcf 3 (by decide) 2 (by rw [p3]; simp) n2
      have n7 : L 7 = false := hcf 7 (by decide) 3 (by rw [p7]; simp) n3
      obtain rfl : w = w0.drew := by
        rcases hW with ⟨_, _, _, e⟩ | ⟨e, _⟩ | ⟨e, _⟩ | ⟨e, _⟩
        · exact e
        · rw [n2] at e; cases e
        all_goals (rw [n3] at e; cases e)
      refine wpOp_of o1 rfl g1 (oL_ldL h1 (rdO rfl rA) cA ?_)
      exact ⟨(.agg #[.int .i64 a0i, .int .i64 a1, .int .i64 a2, .slice ga na ca, .int .i64 a4]), by rw [d1]; rfl, ⟨v, g, c, vt, (fun h => by simpa [upV] using q0 (by simpa [upL] using h)), (fun _ => by simp [upV]), (fun h => by simpa [upV] using q2 (by simpa [upL] using h)), (fun h => by simpa [upV] using q3 (by simpa [upL] using h)), (fun h => by simpa [upV] using q4 (by simpa [upL] using h)), (fun h => by simpa [upV] using q5 (by simpa [upL] using h)), (fun h => by simpa [upV] using q6 (by simpa [upL] using h)), (fun h => by simpa [upV] using q8 (by simpa [upL] using h)), WD_rgw10_up (by decide) (by decide) (by decide) hW⟩⟩
    · obtain ⟨v, g, c, vt, q0, q1, q2, q3, q4, q5, q6, q8, hW⟩ := hD
      have t1 : L 1 = true := hpi 1 (by rw [p2]; simp)
      have n3 : L 3 = false := hcf 3 (by decide) 2 (by rw [p3]; simp) hLi
      have n7 : L 7 = false := hcf 7 (by decide) 3 (by rw [p7]; simp) n3
      obtain rfl : w = w0.drew := by
        rcases hW with ⟨_, _, _, e⟩ | ⟨e, _⟩ | ⟨e, _⟩ | ⟨e, _⟩
        · exact e
        · rw [hLi] at e; cases e
        all_goals (rw [n3] at e; cases e)
      refine wpOp_of o2 rfl g2 (oL_out h2 (rdG (v := (.agg #[.int .i64 a0i, .int .i64 a1, .int .i64 a2, .slice ga na ca, .int .i64 a4])) (by omega : 41 < a0.tmps.size) rfl t1 (q1 t1)) hO ?_)
      rintro e w' ⟨v', rfl, hv⟩
      refine ⟨v', rfl, ?_⟩
      exact ⟨v', by rw [d2]; rfl, ⟨v', g, c, vt, (fun h => by simpa [upV] using q0 (by simpa [upL] using h)), (fun h => by simpa [upV] using q1 (by simpa [upL] using h)), (fun _ => by simp [upV]), (fun h => by simpa [upV] using q3 (by simpa [upL] using h)), (fun h => by simpa [upV] using q4 (by simpa [upL] using h)), (fun h => by simpa [upV] using q5 (by simpa [upL] using h)), (fun h => by simpa [upV] using q6 (by simpa [upL] using h)), (fun h => by simpa [upV] using q8 (by simpa [upL] using h)), .inr (.inl ⟨by simp [upL], by simp [upL, n3], by simp [upL, n7], hv⟩)⟩⟩
    · obtain ⟨v, g, c, vt, q0, q1, q2, q3, q4, q5, q6, q8, hW⟩ := hD
      have t0 : L 0 = true := hpi 0 (by rw [p3]; simp)
      have t2 : L 2 = true := hpi 2 (by rw [p3]; simp)
      have n4 : L 4 = false := hcf 4 (by decide) 3 (by rw [p4]; simp) hLi
      have n7 : L 7 = false := hcf 7 (by decide) 3 (by rw [p7]; simp) hLi
      have n5 : L 5 = false := hcf 5 (by decide) 4 (by rw [p5]; simp) n4
      have n6 : L 6 = false := hcf 6 (by decide) 4 (by rw [p6]; simp) n4
      have n8 : L 8 = false := hcf 8 (by decide) 6 (by rw [p8]; simp) n6
      have hv : GO v w := by
        rcases hW with ⟨e, _⟩ | ⟨_, _, _, e⟩ | ⟨e, _⟩ | ⟨e, _⟩
        · rw [t2] at e; cases e
        · exact e
        all_goals (rw [hLi] at e; cases e)
      refine wpOp_of o3 rfl g3 (oL_in h3 (rdG (v := (.agg #[.int .i64 c0, .int .i64 c1, .int .i64 c2, .slice gc nc cc, .int .i64 c4])) (by omega : 40 < a0.tmps.size) rfl t0 (q0 t0)) (rdG (v := v) (by omega : 42 < a0.tmps.size) rfl t2 (q2 t2)) (hI v w hv) ?_)
      rintro e w' ⟨g', c', vt', rfl, hx⟩
      refine ⟨_, rfl, ?_⟩
      exact ⟨(.tuple #[(.agg #[.int .i64 y0, .int .i64 y1, .int .i64 y2, .slice g' ns c', .int .i64 y4]), vt']), by rw [d3]; rfl, ⟨v, g', c', vt', (fun h => by simpa [upV] using q0 (by simpa [upL] using h)), (fun h => by simpa [upV] using q1 (by simpa [upL] using h)), (fun h => by simpa [upV] using q2 (by simpa [upL] using h)), (fun _ => by simp [upV]), (fun h => by rw [show upL L 3 4 = L 4 from rfl, n4] at h; cases h), (fun h => by rw [show upL L 3 5 = L 5 from rfl, n5] at h; cases h), (fun h => by rw [show upL L 3 6 = L 6 from rfl, n6] at h; cases h), (fun h => by rw [show upL L 3 8 = L 8 from rfl, n8] at h; cases h), .inr (.inr (.inl ⟨by simp [upL], by simp [upL, n7], hx⟩))⟩⟩
    · obtain ⟨v, g, c, vt, q0, q1, q2, q3, q4, q5, q6, q8, hW⟩ := hD
      have t3 : L 3 = true := hpi 3 (by rw [p4]; simp)
      refine wpOp_of o4 rfl g4 (oL_move h4 (rdG (v := (.tuple #[(.agg #[.int .i64 y0, .int .i64 y1, .int .i64 y2, .slice g ns c, .int .i64 y4]), vt])) (by omega : 43 < a0.tmps.size) rfl t3 (q3 t3)) ?_)
      exact ⟨(.tuple #[(.agg #[.int .i64 y0, .int .i64 y1, .int .i64 y2, .slice g ns c, .int .i64 y4]), vt]), by rw [d4]; rfl, ⟨v, g, c, vt, (fun h => by simpa [upV] using q0 (by simpa [upL] using h)), (fun h => by simpa [upV] using q1 (by simpa [upL] using h)), (fun h => by simpa [upV] using q2 (by simpa [upL] using h)), (fun h => by simpa [upV] using q3 (by simpa [upL] using h)), (fun _ => by simp [upV]), (fun h => by simpa [upV] using q5 (by simpa [upL] using h)), (fun h => by simpa [upV] using q6 (by simpa [upL] using h)), (fun h => by simpa [upV] using q8 (by simpa [upL] using h)), WD_rgw10_up (by decide) (by decide) (by decide) hW⟩⟩
    · obtain ⟨v, g, c, vt, q0, q1, q2, q3, q4, q5, q6, q8, hW⟩ := hD
      have t4 : L 4 = true := hpi 4 (by rw [p5]; simp)
      refine wpOp_of o5 rfl g5 (oL_ext0 h5 (rdG (v := (.tuple #[(.agg #[.int .i64 y0, .int .i64 y1, .int .i64 y2, .slice g ns c, .int .i64 y4]), vt])) (by omega : 39 < a0.tmps.size) rfl t4 (q4 t4)) ?_)
      exact ⟨(.agg #[.int .i64 y0, .int .i64 y1, .int .i64 y2, .slice g ns c, .int .i64 y4]), by rw [d5]; rfl, ⟨v, g, c, vt, (fun h => by simpa [upV] using q0 (by simpa [upL] using h)), (fun h => by simpa [upV] using q1 (by simpa [upL] using h)), (fun h => by simpa [upV] using q2 (by simpa [upL] using h)), (fun h => by simpa [upV] using q3 (by simpa [upL] using h)), (fun h => by simpa [upV] using q4 (by simpa [upL] using h)), (fun _ => by simp [upV]), (fun h => by simpa [upV] using q6 (by simpa [upL] using h)), (fun h => by simpa [upV] using q8 (by simpa [upL] using h)), WD_rgw10_up (by decide) (by decide) (by decide) hW⟩⟩
    · obtain ⟨v, g, c, vt, q0, q1, q2, q3, q4, q5, q6, q8, hW⟩ := hD
      have t4 : L 4 = true := hpi 4 (by rw [p6]; simp)
      refine wpOp_of o6 rfl g6 (oL_ext1 h6 (rdG (v := (.tuple #[(.agg #[.int .i64 y0, .int .i64 y1, .int .i64 y2, .slice g ns c, .int .i64 y4]), vt])) (by omega : 39 < a0.tmps.size) rfl t4 (q4 t4)) ?_)
      exact ⟨vt, by rw [d6]; rfl, ⟨v, g, c, vt, (fun h => by simpa [upV] using q0 (by simpa [upL] using h)), (fun h => by simpa [upV] using q1 (by simpa [upL] using h)), (fun h => by simpa [upV] using q2 (by simpa [upL] using h)), (fun h => by simpa [upV] using q3 (by simpa [upL] using h)), (fun h => by simpa [upV] using q4 (by simpa [upL] using h)), (fun h => by simpa [upV] using q5 (by simpa [upL] using h)), (fun _ => by simp [upV]), (fun h => by simpa [upV] using q8 (by simpa [upL] using h)), WD_rgw10_up (by decide) (by decide) (by decide) hW⟩⟩
    · obtain ⟨v, g, c, vt, q0, q1, q2, q3, q4, q5, q6, q8, hW⟩ := hD
      have t3 : L 3 = true := hpi 3 (by rw [p7]; simp)
      have t5 : L 5 = true := hpi 5 (by rw [p7]; simp)
      have hx : GI g c vt w := by
        rcases hW with ⟨_, e, _⟩ | ⟨_, e, _⟩ | ⟨_, _, e⟩ | ⟨_, e, _⟩
        · rw [t3] at e; cases e
        · rw [t3] at e; cases e
        · exact e
        · rw [hLi] at e; cases e
      obtain ⟨z0, z1, z2, z3, z4, tt, hz⟩ := hGI g c vt w hx
      refine wpOp_of o7 rfl g7 (oL_stL h7 (rdO rfl rC) (rdG (v := (.agg #[.int .i64 y0, .int .i64 y1, .int .i64 y2, .slice g ns c, .int .i64 y4])) (by omega : 44 < a0.tmps.size) rfl t5 (q5 t5)) hz ?_)
      exact ⟨undef, by rw [d7]; rfl, ⟨v, g, c, vt, (fun h => by simpa [upV] using q0 (by simpa [upL] using h)), (fun h => by simpa [upV] using q1 (by simpa [upL] using h)), (fun h => by simpa [upV] using q2 (by simpa [upL] using h)), (fun h => by simpa [upV] using q3 (by simpa [upL] using h)), (fun h => by simpa [upV] using q4 (by simpa [upL] using h)), (fun h => by simpa [upV] using q5 (by simpa [upL] using h)), (fun h => by simpa [upV] using q6 (by simpa [upL] using h)), (fun h => by simpa [upV] using q8 (by simpa [upL] using h)), .inr (.inr (.inr ⟨by simp [upL, t3], by simp [upL], w, hx, rfl⟩))⟩⟩
    · obtain ⟨v, g, c, vt, q0, q1, q2, q3, q4, q5, q6, q8, hW⟩ := hD
      have t6 : L 6 = true := hpi 6 (by rw [p8]; simp)
      refine wpOp_of o8 rfl g8 (oL_assign h8 (rdG (v := vt) (by omega : 45 < a0.tmps.size) rfl t6 (q6 t6)) ?_)
      exact ⟨vt, by rw [d8]; rfl, ⟨v, g, c, vt, (fun h => by simpa [upV] using q0 (by simpa [upL] using h)), (fun h => by simpa [upV] using q1 (by simpa [upL] using h)), (fun h => by simpa [upV] using q2 (by simpa [upL] using h)), (fun h => by simpa [upV] using q3 (by simpa [upL] using h)), (fun h => by simpa [upV] using q4 (by simpa [upL] using h)), (fun h => by simpa [upV] using q5 (by simpa [upL] using h)), (fun h => by simpa [upV] using q6 (by simpa [upL] using h)), (fun _ => by simp [upV]), WD_rgw10_up (by decide) (by decide) (by decide) hW⟩⟩
  · intro L val w hD hall
    obtain ⟨v, g, c, vt, q0, q1, q2, q3, q4, q5, q6, q8, hW⟩ := hD
    obtain ⟨w4, hx, rfl⟩ : ∃ w4, GI g c vt w4 ∧ w = (((((w4.setCell ⟨C, 0, none⟩ (.int .i64 y0)).setCell ⟨C, 1, none⟩ (.int .i64 y1)).setCell ⟨C, 2, none⟩ (.int .i64 y2)).setCell ⟨C, 3, none⟩ ((.slice g ns c))).setCell ⟨C, 4, none⟩ (.int .i64 y4)) := by
      rcases hW with ⟨_, e, _⟩ | ⟨_, e, _⟩ | ⟨_, e, _⟩ | ⟨_, _, e⟩
      · rw [hall 3 (by show 3 < 9; decide)] at e; cases e
      · rw [hall 3 (by show 3 < 9; decide)] at e; cases e
      · rw [hall 7 (by show 7 < 9; decide)] at e; cases e
      · exact e
    simp only [putsL, List.foldl_cons, List.foldl_nil, q0 (hall 0 (by show 0 < 9; decide)), q1 (hall 1 (by show 1 < 9; decide)), q2 (hall 2 (by show 2 < 9; decide)), q3 (hall 3 (by show 3 < 9; decide)), q4 (hall 4 (by show 4 < 9; decide)), q5 (hall 5 (by show 5 < 9; decide)), q6 (hall 6 (by show 6 < 9; decide)), q8 (hall 8 (by show 8 < 9; decide))]
    exact hend v g c vt w4 hx
def WD_rgw11 (GO : Value → World → Prop) (GI : Option Addr → Nat → Value → World → Prop) (C : Nat) (y0 y1 y2 y4 : Int) (ns : Nat) (w0 : World) (v : Value) (g : Option Addr) (c : Nat) (vt : Value) (L : Nat → Bool) (w : World) : Prop :=
  (L 2 = false ∧ L 3 = false ∧ L 7 = false ∧ w = w0.drew) ∨ (L 2 = true ∧ L 3 = false ∧ L 7 = false ∧ GO v w) ∨ (L 3 = true ∧ L 7 = false ∧ GI g c vt w) ∨ (L 3 = true ∧ L 7 = true ∧ ∃ w4, GI g c vt w4 ∧ w = (((((w4.setCell ⟨C, 0, none⟩ (.int .i64 y0)).setCell ⟨C, 1, none⟩ (.int .i64 y1)).setCell ⟨C, 2, none⟩ (.int .i64 y2)).setCell ⟨C, 3, none⟩ ((.slice g ns c))).setCell ⟨C, 4, none⟩ (.int .i64 y4)))
theorem WD_rgw11_up {GO : Value → World → Prop} {GI : Option Addr → Nat → Value → World → Prop} {C : Nat} {y0 y1 y2 y4 : Int} {ns : Nat} {w0 : World} {v : Value} {g : Option Addr} {c : Nat} {vt : Value} {L : Nat → Bool} {w : World} {i : Nat} (h2 : 2 ≠ i) (h3 : 3 ≠ i) (h7 : 7 ≠ i) (h : WD_rgw11 GO GI C y0 y1 y2 y4 ns w0 v g c vt L w) : WD_rgw11 GO GI C y0 y1 y2 y4 ns w0 v g c vt (upL L i) w := by
  unfold WD_rgw11 upL at *
  simp only [if_neg h2, if_neg h3, if_neg h7]
  exact h
set_option maxRecDepth 20000 in
set_option maxHeartbeats 2000000 in
theorem rgw11 {o0 o1 o2 o3 o4 o5 o6 o7 : Oper} {id : Nat} {Q : Exit → Act → World → Prop} (A C : Nat) (a0i a1 a2 a4 c0 c1 c2 c4 y0 y1 y2 y4 : Int) (ga gc : Option Addr) (na ca nc cc ns : Nat)
    (h0 : o0.op = Op.load 24 (Operand.tmp 4)) (d0 : o0.dst = some 47) (g0 : o0.guard = none)
    (h1 : o1.op = Op.load 24 (Operand.tmp 6)) (d1 : o1.dst = some 48) (g1 : o1.guard = none)
    (h2 : o2.op = Op.call { callee := Callee.value (Operand.func 23), args := #[Operand.tmp 48], argTypes := #[24] }) (d2 : o2.dst = some 49) (g2 : o2.guard = none)
    (h3 : o3.op = Op.call { callee := Callee.value (Operand.func 19), args := #[Operand.tmp 47, Operand.tmp 49], argTypes := #[24, 26] }) (d3 : o3.dst = some 50) (g3 : o3.guard = none)
    (h4 : o4.op = Op.move (Operand.tmp 50)) (d4 : o4.dst = some 46) (g4 : o4.guard = none)
    (h5 : o5.op = Op.extract (Operand.tmp 46) 0) (d5 : o5.dst = some 51) (g5 : o5.guard = none)
    (h6 : o6.op = Op.extract (Operand.tmp 46) 1) (d6 : o6.dst = some 52) (g6 : o6.guard = none)
    (h7 : o7.op = Op.store 24 (Operand.tmp 4) (Operand.tmp 51)) (d7 : o7.dst = none) (g7 : o7.guard = none)
    (hp : (List.range 8).map (pres #[o0, o1, o2, o3, o4, o5, o6, o7]) = [[], [], [1], [0, 2, 2], [3], [4], [4], [5, 3, 0, 1, 2, 3, 4, 5]])
    (a0 : Act) (w0 : World) (hsz : 53 ≤ a0.tmps.size) (rC : a0.tmps[4]?.getD undef = .pointer (some ⟨C, 0, none⟩)) (rA : a0.tmps[6]?.getD undef = .pointer (some ⟨A, 0, none⟩))
    (cA : w0.cell? ⟨A, 0, none⟩ = some (.int .i64 a0i) ∧ w0.cell? ⟨A, 1, none⟩ = some (.int .i64 a1) ∧ w0.cell? ⟨A, 2, none⟩ = some (.int .i64 a2) ∧ w0.cell? ⟨A, 3, none⟩ = some (.slice ga na ca) ∧ w0.cell? ⟨A, 4, none⟩ = some (.int .i64 a4)) (cC : w0.cell? ⟨C, 0, none⟩ = some (.int .i64 c0) ∧ w0.cell? ⟨C, 1, none⟩ = some (.int .i64 c1) ∧ w0.cell? ⟨C, 2, none⟩ = some (.int .i64 c2) ∧ w0.cell? ⟨C, 3, none⟩ = some (.slice gc nc cc) ∧ w0.cell? ⟨C, 4, none⟩ = some (.int .i64 c4))
    (GO : Value → World → Prop) (GI : Option Addr → Nat → Value → World → Prop)
    (hO : Calls Try.prog 23 #[(.agg #[.int .i64 a0i, .int .i64 a1, .int .i64 a2, .slice ga na ca, .int .i64 a4])] w0.drew fun e w' => ∃ v, e = .returned v ∧ GO v w') (hGO : ∀ v u, GO v u → u.cell? ⟨C, 0, none⟩ = some (.int .i64 c0) ∧ u.cell? ⟨C, 1, none⟩ = some (.int .i64 c1) ∧ u.cell? ⟨C, 2, none⟩ = some (.int .i64 c2) ∧ u.cell? ⟨C, 3, none⟩ = some (.slice gc nc cc) ∧ u.cell? ⟨C, 4, none⟩ = some (.int .i64 c4))
    (hI : ∀ v u, GO v u → Calls Try.prog 19 #[(.agg #[.int .i64 c0, .int .i64 c1, .int .i64 c2, .slice gc nc cc, .int .i64 c4]), v] u fun e w' => ∃ g c vt, e = .returned (.tuple #[(.agg #[.int .i64 y0, .int .i64 y1, .int .i64 y2, .slice g ns c, .int .i64 y4]), vt]) ∧ GI g c vt w')
    (hGI : ∀ g c vt u, GI g c vt u → ∃ z0 z1 z2 z3 z4 tt, u.heap[C]? = some (.cells #[z0, z1, z2, z3, z4] tt (0, 0)))
    (hend : ∀ v g c vt w4, GI g c vt w4 → Q .normal (((((((a0.put (some 47) (.agg #[.int .i64 c0, .int .i64 c1, .int .i64 c2, .slice gc nc cc, .int .i64 c4])).put (some 48) (.agg #[.int .i64 a0i, .int .i64 a1, .int .i64 a2, .slice ga na ca, .int .i64 a4])).put (some 49) v).put (some 50) (.tuple #[(.agg #[.int .i64 y0, .int .i64 y1, .int .i64 y2, .slice g ns c, .int .i64 y4]), vt])).put (some 46) (.tuple #[(.agg #[.int .i64 y0, .int .i64 y1, .int .i64 y2, .slice g ns c, .int .i64 y4]), vt])).put (some 51) (.agg #[.int .i64 y0, .int .i64 y1, .int .i64 y2, .slice g ns c, .int .i64 y4])).put (some 52) vt) (((((w4.setCell ⟨C, 0, none⟩ (.int .i64 y0)).setCell ⟨C, 1, none⟩ (.int .i64 y1)).setCell ⟨C, 2, none⟩ (.int .i64 y2)).setCell ⟨C, 3, none⟩ ((.slice g ns c))).setCell ⟨C, 4, none⟩ (.int .i64 y4))) : (Code.region id #[o0, o1, o2, o3, o4, o5, o6, o7] true).wp Try.prog Q a0 w0 := by
  have p0 : pres #[o0, o1, o2, o3, o4, o5, o6, o7] 0 = [] := pres_of hp (by decide) rfl
  have p1 : pres #[o0, o1, o2, o3, o4, o5, o6, o7] 1 = [] := pres_of hp (by decide) rfl
  have p2 : pres #[o0, o1, o2, o3, o4, o5, o6, o7] 2 = [1] := pres_of hp (by decide) rfl
  have p3 : pres #[o0, o1, o2, o3, o4, o5, o6, o7] 3 = [0, 2, 2] := pres_of hp (by decide) rfl
  have p4 : pres #[o0, o1, o2, o3, o4, o5, o6, o7] 4 = [3] := pres_of hp (by decide) rfl
  have p5 : pres #[o0, o1, o2, o3, o4, o5, o6, o7] 5 = [4] := pres_of hp (by decide) rfl
  have p6 : pres #[o0, o1, o2, o3, o4, o5, o6, o7] 6 = [4] := pres_of hp (by decide) rfl
  have p7 : pres #[o0, o1, o2, o3, o4, o5, o6, o7] 7 = [5, 3, 0, 1, 2, 3, 4, 5] := pres_of hp (by decide) rfl
  have hor : ∀ i, i < 8 → i = 0 ∨ i = 1 ∨ i = 2 ∨ i = 3 ∨ i = 4 ∨ i = 5 ∨ i = 6 ∨ i = 7 := by omega
  refine wp_late (by kernel_rfl) ?_ [(0, 47), (1, 48), (2, 49), (3, 50), (4, 46), (5, 51), (6, 52)] (fun L val w => ∃ v g c vt, (L 0 = true → val 0 = (.agg #[.int .i64 c0, .int .i64 c1, .int .i64 c2, .slice gc nc cc, .int .i64 c4])) ∧ (L 1 = true → val 1 = (.agg #[.int .i64 a0i, .int .i64 a1, .int .i64 a2, .slice ga na ca, .int .i64 a4])) ∧ (L 2 = true → val 2 = v) ∧ (L 3 = true → val 3 = (.tuple #[(.agg #[.int .i64 y0, .int .i64 y1, .int .i64 y2, .slice g ns c, .int .i64 y4]), vt])) ∧ (L 4 = true → val 4 = (.tuple #[(.agg #[.int .i64 y0, .int .i64 y1, .int .i64 y2, .slice g ns c, .int .i64 y4]), vt])) ∧ (L 5 = true → val 5 = (.agg #[.int .i64 y0, .int .i64 y1, .int .i64 y2, .slice g ns c, .int .i64 y4])) ∧ (L 6 = true → val 6 = vt) ∧ WD_rgw11 GO GI C y0 y1 y2 y4 ns w0 v g c vt L w) a0 w0 (fun _ => undef) ⟨undef, none, 0, undef, (fun h => by cases h), (fun h => by cases h), (fun h => by cases h), (fun h => by cases h), (fun h => by cases h), (fun h => by cases h), (fun h => by cases h), .inl ⟨rfl, rfl, rfl, rfl⟩⟩ (fun i => if i = 0 then some 47 else if i = 1 then some 48 else if i = 2 then some 49 else if i = 3 then some 50 else if i = 4 then some 46 else if i = 5 then some 51 else if i = 6 then some 52 else none) ?_ (by decide) (by show ∀ e ∈ [(0, 47), (1, 48), (2, 49), (3, 50), (4, 46), (5, 51), (6, 52)], e.1 < 8; decide) ?_ ?_
  · intro i hi k hk
    rcases hor i hi with rfl | rfl | rfl | rfl | rfl | rfl | rfl | rfl
    · rw [p0] at hk; simp at hk
    · rw [p1] at hk; simp at hk
    · rw [p2] at hk; simp at hk; omega
    · rw [p3] at hk; simp at hk; omega
    · rw [p4] at hk; simp at hk; omega
    · rw [p5] at hk; simp at hk; omega
    · rw [p6] at hk; simp at hk; omega
    · rw [p7] at hk; simp at hk; omega
  · intro i hi
    rcases hor i hi with rfl | rfl | rfl | rfl | rfl | rfl | rfl | rfl
    · exact .inl ⟨47, rfl, rfl, by decide⟩
    · exact .inl ⟨48, rfl, rfl, by decide⟩
    · exact .inl ⟨49, rfl, rfl, by decide⟩
    · exact .inl ⟨50, rfl, rfl, by decide⟩
    · exact .inl ⟨46, rfl, rfl, by decide⟩
    · exact .inl ⟨51, rfl, rfl, by decide⟩
    · exact .inl ⟨52, rfl, rfl, by decide⟩
    · exact .inr ⟨rfl, by decide⟩
  · intro i hi L val w hD hcl hLi hpi
    have hcf : ∀ j, j < 8 → ∀ k ∈ pres #[o0, o1, o2, o3, o4, o5, o6, o7] j, L k = false → L j = false := fun j hj k hk hk0 => by
      cases e : L j with
      | false => rfl
      | true => have := hcl j hj e k hk; rw [hk0] at this; cases this
    rcases hor i hi with rfl | rfl | rfl | rfl | rfl | rfl | rfl | rfl
    · obtain ⟨v, g, c, vt, q0, q1, q2, q3, q4, q5, q6, hW⟩ := hD
      have n3 : L 3 = false := hcf 3 (by decide) 0 (by rw [p3]; simp) hLi
      have n7 : L 7 = false := hcf 7 (by decide) 3 (by rw [p7]; simp) n3
      have hc : w.cell? ⟨C, 0, none⟩ = some (.int .i64 c0) ∧ w.cell? ⟨C, 1, none⟩ = some (.int .i64 c1) ∧ w.cell? ⟨C, 2, none⟩ = some (.int .i64 c2) ∧ w.cell? ⟨C, 3, none⟩ = some (.slice gc nc cc) ∧ w.cell? ⟨C, 4, none⟩ = some (.int .i64 c4) := by
        rcases hW with ⟨_, _, _, rfl⟩ | ⟨_, _, _, e⟩ | ⟨e, _⟩ | ⟨e, _⟩
        · exact cC
        · exact hGO _ _ e
        all_goals (rw [n3] at e; cases e)
      refine wpOp_of o0 rfl g0 (oL_ldL h0 (rdO rfl rC) hc ?_)
      exact ⟨(.agg #[.int .i64 c0, .int .i64 c1, .int .i64 c2, .slice gc nc cc, .int .i64 c4]), by rw [d0]; rfl, ⟨v, g, c, vt, (fun _ => by simp [upV]), (fun h => by simpa [upV] using q1 (by simpa [upL] using h)), (fun h => by simpa [upV] using q2 (by simpa [upL] using h)), (fun h => by simpa [upV] using q3 (by simpa [upL] using h)), (fun h => by simpa [upV] using q4 (by simpa [upL] using h)), (fun h => by simpa [upV] using q5 (by simpa [upL] using h)), (fun h => by simpa [upV] using q6 (by simpa [upL] using h)), WD_rgw11_up (by decide) (by decide) (by decide) hW⟩⟩
    · obtain ⟨v, g, c, vt, q0, q1, q2, q3, q4, q5, q6, hW⟩ := hD
      have n2 : L 2 = false := hcf 2 (by decide) 1 (by rw [p2]; simp) hLi
      have n3 : L 3 = false := hcf 3 (by decide) 2 (by rw [p3]; simp) n2
      have n7 : L 7 = false := hcf 7 (by decide) 3 (by rw [p7]; simp) n3
      obtain rfl : w = w0.drew := by
        rcases hW with ⟨_, _, _, e⟩ | ⟨e, _⟩ | ⟨e, _⟩ | ⟨e, _⟩
        · exact e
        · rw [n2] at e; cases e
        all_goals (rw [n3] at e; cases e)
      refine wpOp_of o1 rfl g1 (oL_ldL h1 (rdO rfl rA) cA ?_)
      exact ⟨(.agg #[.int .i64 a0i, .int .i64 a1, .int .i64 a2, .slice ga na ca, .int .i64 a4]), by rw [d1]; rfl, ⟨v, g, c, vt, (fun h => by simpa [upV] using q0 (by simpa [upL] using h)), (fun _ => by simp [upV]), (fun h => by simpa [upV] using q2 (by simpa [upL] using h)), (fun h => by simpa [upV] using q3 (by simpa [upL] using h)), (fun h => by simpa [upV] using q4 (by simpa [upL] using h)), (fun h => by simpa [upV] using q5 (by simpa [upL] using h)), (fun h => by simpa [upV] using q6 (by simpa [upL] using h)), WD_rgw11_up (by decide) (by decide) (by decide) hW⟩⟩
    · obtain ⟨v, g, c, vt, q0, q1, q2, q3, q4, q5, q6, hW⟩ := hD
      have t1 : L 1 = true := hpi 1 (by rw [p2]; simp)
      have n3 : L 3 = false := hcf 3 (by decide) 2 (by rw [p3]; simp) hLi
      have n7 : L 7 = false := hcf 7 (by decide) 3 (by rw [p7]; simp) n3
      obtain rfl : w = w0.drew := by
        rcases hW with ⟨_, _, _, e⟩ | ⟨e, _⟩ | ⟨e, _⟩ | ⟨e, _⟩
        · exact e
        · rw [hLi] at e; cases e
        all_goals (rw [n3] at e; cases e)
      refine wpOp_of o2 rfl g2 (oL_out h2 (rdG (v := (.agg #[.int .i64 a0i, .int .i64 a1, .int .i64 a2, .slice ga na ca, .int .i64 a4])) (by omega : 48 < a0.tmps.size) rfl t1 (q1 t1)) hO ?_)
      rintro e w' ⟨v', rfl, hv⟩
      refine ⟨v', rfl, ?_⟩
      exact ⟨v', by rw [d2]; rfl, ⟨v', g, c, vt, (fun h => by simpa [upV] using q0 (by simpa [upL] using h)), (fun h => by simpa [upV] using q1 (by simpa [upL] using h)), (fun _ => by simp [upV]), (fun h => by simpa [upV] using q3 (by simpa [upL] using h)), (fun h => by simpa [upV] using q4 (by simpa [upL] using h)), (fun h => by simpa [upV] using q5 (by simpa [upL] using h)), (fun h => by simpa [upV] using q6 (by simpa [upL] using h)), .inr (.inl ⟨by simp [upL], by simp [upL, n3], by simp [upL, n7], hv⟩)⟩⟩
    · obtain ⟨v, g, c, vt, q0, q1, q2, q3, q4, q5, q6, hW⟩ := hD
      have t0 : L 0 = true := hpi 0 (by rw [p3]; simp)
      have t2 : L 2 = true := hpi 2 (by rw [p3]; simp)
      have n4 : L 4 = false := hcf 4 (by decide) 3 (by rw [p4]; simp) hLi
      have n7 : L 7 = false := hcf 7 (by decide) 3 (by rw [p7]; simp) hLi
      have n5 : L 5 = false := hcf 5 (by decide) 4 (by rw [p5]; simp) n4
      have n6 : L 6 = false := hcf 6 (by decide) 4 (by rw [p6]; simp) n4
      have hv : GO v w := by
        rcases hW with ⟨e, _⟩ | ⟨_, _, _, e⟩ | ⟨e, _⟩ | ⟨e, _⟩
        · rw [t2] at e; cases e
        · exact e
        all_goals (rw [hLi] at e; cases e)
      refine wpOp_of o3 rfl g3 (oL_in h3 (rdG (v := (.agg #[.int .i64 c0, .int .i64 c1, .int .i64 c2, .slice gc nc cc, .int .i64 c4])) (by omega : 47 < a0.tmps.size) rfl t0 (q0 t0)) (rdG (v := v) (by omega : 49 < a0.tmps.size) rfl t2 (q2 t2)) (hI v w hv) ?_)
      rintro e w' ⟨g', c', vt', rfl, hx⟩
      refine ⟨_, rfl, ?_⟩
      exact ⟨(.tuple #[(.agg #[.int .i64 y0, .int .i64 y1, .int .i64 y2, .slice g' ns c', .int .i64 y4]), vt']), by rw [d3]; rfl, ⟨v, g', c', vt', (fun h => by simpa [upV] using q0 (by simpa [upL] using h)), (fun h => by simpa [upV] using q1 (by simpa [upL] using h)), (fun h => by simpa [upV] using q2 (by simpa [upL] using h)), (fun _ => by simp [upV]), (fun h => by rw [show upL L 3 4 = L 4 from rfl, n4] at h; cases h), (fun h => by rw [show upL L 3 5 = L 5 from rfl, n5] at h; cases h), (fun h => by rw [show upL L 3 6 = L 6 from rfl, n6] at h; cases h), .inr (.inr (.inl ⟨by simp [upL], by simp [upL, n7], hx⟩))⟩⟩
    · obtain ⟨v, g, c, vt, q0, q1, q2, q3, q4, q5, q6, hW⟩ := hD
      have t3 : L 3 = true := hpi 3 (by rw [p4]; simp)
      refine wpOp_of o4 rfl g4 (oL_move h4 (rdG (v := (.tuple #[(.agg #[.int .i64 y0, .int .i64 y1, .int .i64 y2, .slice g ns c, .int .i64 y4]), vt])) (by omega : 50 < a0.tmps.size) rfl t3 (q3 t3)) ?_)
      exact ⟨(.tuple #[(.agg #[.int .i64 y0, .int .i64 y1, .int .i64 y2, .slice g ns c, .int .i64 y4]), vt]), by rw [d4]; rfl, ⟨v, g, c, vt, (fun h => by simpa [upV] using q0 (by simpa [upL] using h)), (fun h => by simpa [upV] using q1 (by simpa [upL] using h)), (fun h => by simpa [upV] using q2 (by simpa [upL] using h)), (fun h => by simpa [upV] using q3 (by simpa [upL] using h)), (fun _ => by simp [upV]), (fun h => by simpa [upV] using q5 (by simpa [upL] using h)), (fun h => by simpa [upV] using q6 (by simpa [upL] using h)), WD_rgw11_up (by decide) (by decide) (by decide) hW⟩⟩
    · obtain ⟨v, g, c, vt, q0, q1, q2, q3, q4, q5, q6, hW⟩ := hD
      have t4 : L 4 = true := hpi 4 (by rw [p5]; simp)
      refine wpOp_of o5 rfl g5 (oL_ext0 h5 (rdG (v := (.tuple #[(.agg #[.int .i64 y0, .int .i64 y1, .int .i64 y2, .slice g ns c, .int .i64 y4]), vt])) (by omega : 46 < a0.tmps.size) rfl t4 (q4 t4)) ?_)
      exact ⟨(.agg #[.int .i64 y0, .int .i64 y1, .int .i64 y2, .slice g ns c, .int .i64 y4]), by rw [d5]; rfl, ⟨v, g, c, vt, (fun h => by simpa [upV] using q0 (by simpa [upL] using h)), (fun h => by simpa [upV] using q1 (by simpa [upL] using h)), (fun h => by simpa [upV] using q2 (by simpa [upL] using h)), (fun h => by simpa [upV] using q3 (by simpa [upL] using h)), (fun h => by simpa [upV] using q4 (by simpa [upL] using h)), (fun _ => by simp [upV]), (fun h => by simpa [upV] using q6 (by simpa [upL] using h)), WD_rgw11_up (by decide) (by decide) (by decide) hW⟩⟩
    · obtain ⟨v, g, c, vt, q0, q1, q2, q3, q4, q5, q6, hW⟩ := hD
      have t4 : L 4 = true := hpi 4 (by rw [p6]; simp)
      refine wpOp_of o6 rfl g6 (oL_ext1 h6 (rdG (v := (.tuple #[(.agg #[.int .i64 y0, .int .i64 y1, .int .i64 y2, .slice g ns c, .int .i64 y4]), vt])) (by omega : 46 < a0.tmps.size) rfl t4 (q4 t4)) ?_)
      exact ⟨vt, by rw [d6]; rfl, ⟨v, g, c, vt, (fun h => by simpa [upV] using q0 (by simpa [upL] using h)), (fun h => by simpa [upV] using q1 (by simpa [upL] using h)), (fun h => by simpa [upV] using q2 (by simpa [upL] using h)), (fun h => by simpa [upV] using q3 (by simpa [upL] using h)), (fun h => by simpa [upV] using q4 (by simpa [upL] using h)), (fun h => by simpa [upV] using q5 (by simpa [upL] using h)), (fun _ => by simp [upV]), WD_rgw11_up (by decide) (by decide) (by decide) hW⟩⟩
    · obtain ⟨v, g, c, vt, q0, q1, q2, q3, q4, q5, q6, hW⟩ := hD
      have t3 : L 3 = true := hpi 3 (by rw [p7]; simp)
      have t5 : L 5 = true := hpi 5 (by rw [p7]; simp)
      have hx : GI g c vt w := by
        rcases hW with ⟨_, e, _⟩ | ⟨_, e, _⟩ | ⟨_, _, e⟩ | ⟨_, e, _⟩
        · rw [t3] at e; cases e
        · rw [t3] at e; cases e
        · exact e
        · rw [hLi] at e; cases e
      obtain ⟨z0, z1, z2, z3, z4, tt, hz⟩ := hGI g c vt w hx
      refine wpOp_of o7 rfl g7 (oL_stL h7 (rdO rfl rC) (rdG (v := (.agg #[.int .i64 y0, .int .i64 y1, .int .i64 y2, .slice g ns c, .int .i64 y4])) (by omega : 51 < a0.tmps.size) rfl t5 (q5 t5)) hz ?_)
      exact ⟨undef, by rw [d7]; rfl, ⟨v, g, c, vt, (fun h => by simpa [upV] using q0 (by simpa [upL] using h)), (fun h => by simpa [upV] using q1 (by simpa [upL] using h)), (fun h => by simpa [upV] using q2 (by simpa [upL] using h)), (fun h => by simpa [upV] using q3 (by simpa [upL] using h)), (fun h => by simpa [upV] using q4 (by simpa [upL] using h)), (fun h => by simpa [upV] using q5 (by simpa [upL] using h)), (fun h => by simpa [upV] using q6 (by simpa [upL] using h)), .inr (.inr (.inr ⟨by simp [upL, t3], by simp [upL], w, hx, rfl⟩))⟩⟩
  · intro L val w hD hall
    obtain ⟨v, g, c, vt, q0, q1, q2, q3, q4, q5, q6, hW⟩ := hD
    obtain ⟨w4, hx, rfl⟩ : ∃ w4, GI g c vt w4 ∧ w = (((((w4.setCell ⟨C, 0, none⟩ (.int .i64 y0)).setCell ⟨C, 1, none⟩ (.int .i64 y1)).setCell ⟨C, 2, none⟩ (.int .i64 y2)).setCell ⟨C, 3, none⟩ ((.slice g ns c))).setCell ⟨C, 4, none⟩ (.int .i64 y4)) := by
      rcases hW with ⟨_, e, _⟩ | ⟨_, e, _⟩ | ⟨_, e, _⟩ | ⟨_, _, e⟩
      · rw [hall 3 (by show 3 < 8; decide)] at e; cases e
      · rw [hall 3 (by show 3 < 8; decide)] at e; cases e
      · rw [hall 7 (by show 7 < 8; decide)] at e; cases e
      · exact e
    simp only [putsL, List.foldl_cons, List.foldl_nil, q0 (hall 0 (by show 0 < 8; decide)), q1 (hall 1 (by show 1 < 8; decide)), q2 (hall 2 (by show 2 < 8; decide)), q3 (hall 3 (by show 3 < 8; decide)), q4 (hall 4 (by show 4 < 8; decide)), q5 (hall 5 (by show 5 < 8; decide)), q6 (hall 6 (by show 6 < 8; decide))]
    exact hend v g c vt w4 hx
end Go.Proofs.Ytbhgffbmeaomkaa.Gr
