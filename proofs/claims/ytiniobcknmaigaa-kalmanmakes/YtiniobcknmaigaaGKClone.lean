/-
  slices.Clone of numbers, of whatever slice; 'append' that makes a new row, in a region that draws its order.
-/
import Derived.Test.YtiniobcknmaigaaG22
import Derived.Test.YtiniobcknmaigaaG25
import Derived.ArgAppend
namespace Go.Proofs.Ytiniobcknmaigaa
open Go.RowKit Go.Sort Qm

theorem clone_nil' (w : World) :
    Calls Try.prog 27 #[.slice none 0 0] w fun e b => ∃ v', e = .returned v' ∧ Sees b v' [] ∧ New w.heap.size v' ∧ (∀ q, v'.ownBlock = some q → q < b.heap.size) ∧ Below w.heap.size w b := by
  have hnil := fun v => run_nil22 none 0 0 v
  go_enter Try.func27, Try.ntmps27
  go_wp2
  go_ret
  exact ⟨_, rfl, ⟨none, 0, rfl, fun k hk => by simp at hk⟩, fun k hk => (by cases hk), fun k hk => (by cases hk), Below.refl _ _⟩
set_option maxRecDepth 20000 in
set_option maxHeartbeats 400000 in
theorem clone_at' (ad : Addr) (cap : Nat) (xs : List Int) (hn : xs.length ≤ 100) (w : World) (hs : Sees w (.slice (some ad) xs.length cap) xs) :
    Calls Try.prog 27 #[.slice (some ad) xs.length cap] w fun e b => ∃ v', e = .returned v' ∧ Sees b v' xs ∧ New w.heap.size v' ∧ (∀ q, v'.ownBlock = some q → q < b.heap.size) ∧ Below w.heap.size w b := by
  obtain ⟨i0, hi, hz0, hz1, hz2⟩ := info_parts Try.info33
  have hv := fun o => sees_vals (hs.alloc o) rfl
  have HE : Hid (∀ (b : World) (v : Value), b.ownsRow w.heap.size 41 1 v xs.length (xs.map (Value.int .i64)) → Sees b v xs ∧ New w.heap.size v ∧ (∀ q, v.ownBlock = some q → q < b.heap.size)) := fun b v h => ⟨Sees.own h, New.own h, fun q hq => (h.lt q hq).2⟩
  have hl : (xs.map (Value.int .i64)).length = xs.length := by simp
  have ho := vals_one xs
  generalize xs.map (Value.int .i64) = vals at hv hl HE ho
  obtain ⟨n, hn'⟩ : ∃ n, xs.length = n := ⟨_, rfl⟩
  rw [hn'] at hn hl hs HE ⊢
  clear hn'
  have HL : Hid (vals.length = n * 1) := by rw [Nat.mul_one]; exact hl
  have hnil := fun v => run_nil22 (some ad) n cap v
  have h0 : (w.alloc (.cells #[] 41)).ownsRow w.heap.size 41 1 (.slice (some ⟨w.heap.size, 0, none⟩) 0 0) 0 [] := ⟨rfl, .inr ⟨_, 0, #[], rfl, Nat.le_refl _, heap_new _ _, Nat.le_refl _, Nat.zero_le _, rfl, rfl⟩⟩
  clear hl
  go_enter Try.func27, Try.ntmps27
  go_wp2_with (at_builtin; go_must (refine wpList_append_own _ rfl _ _ 22 rfl w.heap.size 41 i0 (.int .i64 0) 1 8 Try.under22 hi hz0 hz1 hz2 rfl (by decide) _ _ _ rfl h0 ad n cap vals rfl HL.out (hv _) ho (by unfold maxLen; omega) (by omega) (by simp) ?_); intro v2 w2 hown2 hg2 hnil2)
  have b2 : Below w.heap.size w w2 := (box_below w _).trans (((Below.refl _ _)).grown hg2 (by simp) (fun m e => by cases e; exact Nat.le_refl _))
  have h3 := HE.out w2 v2 (by simpa using hown2)
  clear hown2 hg2 hnil2
  go_wp2
  go_ret
  exact ⟨_, rfl, h3.1, h3.2.1, h3.2.2, b2⟩
theorem clone_all (v : Value) (xs : List Int) (hst : v = .slice none 0 0 ∨ ∃ a n c, v = .slice (some a) n c) (hn : xs.length ≤ 100) (w : World) (hs : Sees w v xs) :
    Calls Try.prog 27 #[v] w fun e b => ∃ v', e = .returned v' ∧ Sees b v' xs ∧ New w.heap.size v' ∧ (∀ q, v'.ownBlock = some q → q < b.heap.size) ∧ Below w.heap.size w b := by
  rcases hst with rfl | ⟨a, n, c, rfl⟩
  · obtain ⟨ao, cap, hv, _⟩ := id hs
    have e : xs = [] := by
      injection hv with _ h2 _
      exact List.eq_nil_of_length_eq_zero h2.symm
    subst e
    exact clone_nil' w
  · obtain ⟨ao, cap, hv, _⟩ := id hs
    injection hv with h1 h2 h3
    subst h2
    exact clone_at' a c xs hn w hs
section
variable {a : Act} {w : World} {K : Act → World → Prop} {Q : Exit → Act → World → Prop} {o : Oper}
theorem op_buildE (hop : o.op = Op.buildSlice 22 0 #[]) (hK : K (a.put o.dst (.slice (some ⟨w.heap.size, 0, none⟩) 0 0)) (w.alloc (.cells #[] 41))) : o.wp Try.prog a w K Q := by
  unfold Oper.wp
  simp [execOp, hop, go_sem]
  exact hK
theorem op_appendG {s x m c : Nat} {b ad : Addr} {vals : List Value} {i : TypeInfo} (hi : Try.prog.info? 41 = some i) (hz : i.zero = some (.int .i64 0)) (hz1 : i.size = 1) (hz2 : i.bytes = 8)
    (hop : o.op = Op.call { callee := Callee.builtin Builtin.append, args := #[Operand.tmp s, Operand.tmp x], argTypes := #[22, 22] }) (hs : a.tmps[s]?.getD undef = .slice (some b) 0 0) (hx : a.tmps[x]?.getD undef = .slice (some ad) m c)
    (hl : vals.length = m * 1) (hc : ∀ j u, vals[j]? = some u → w.cell? (ad.add j) = some u) (hm : 0 < m) (hn : m ≤ 100)
    (hK : ∀ v' w', w'.ownsRow w.heap.size 41 1 v' m vals → w.grownBy w' none → K (a.put o.dst v') w') : o.wp Try.prog a w K Q := by
  have hs' : a.eval (Operand.tmp s) = .slice (some b) 0 0 := by simp [go_sem, hs]
  have hx' : a.eval (Operand.tmp x) = .slice (some ad) m c := by simp [go_sem, hx]
  obtain ⟨v', w', hr, h2, h3⟩ := run_append_arg_grows (P := Try.prog) w 22 o.type 41 i (.int .i64 0) 1 8 Try.under22 hi hz hz1 hz2 rfl (by decide) b 0 0 [] rfl (fun j u h => by simp at h) ad m c vals hl hc (by omega) (by unfold maxLen; omega) (by omega)
  unfold Oper.wp execOp
  simp only [hop, resolve, invoke, builtin, Sem.run_bind, Sem.run_pure, Result.andThen_ok, List.map_toArray, List.map_cons, List.map_nil, hs', hx', hr]
  refine hK v' w' ?_ h3
  simpa using h2
end
end Go.Proofs.Ytiniobcknmaigaa
