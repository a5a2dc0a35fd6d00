/-
  The operations of 'l = append(l, x)' of numbers, in a region that draws its order.
-/
import Derived.Test.YtiniobcknmaigaaRegW
import Derived.Maps.AppendAt
namespace Go.Proofs.Ytiniobcknmaigaa
open Go.RowKit Go.Sort Qm

section
variable {a : Act} {w : World} {K : Act → World → Prop} {Q : Exit → Act → World → Prop} {o : Oper}
theorem op_buildQ {s : Nat} {q : Int} (hop : o.op = Op.buildSlice 22 1 #[(0, Operand.tmp s)]) (hs : a.tmps[s]?.getD undef = .int .i64 q)
    (hK : K (a.put o.dst (.slice (some ⟨w.heap.size, 0, none⟩) 1 1)) (w.alloc (.cells #[.int .i64 q] 41))) : o.wp Try.prog a w K Q := by
  unfold Oper.wp
  simp [execOp, hop, go_sem, hs]
  exact hK
theorem op_appendQ {s x base n X : Nat} {v : Value} {q : Int} {xs : List Value} {i : TypeInfo} (hi : Try.prog.info? 41 = some i) (hz : i.zero = some (.int .i64 0)) (hz1 : i.size = 1) (hz2 : i.bytes = 8)
    (hop : o.op = Op.call { callee := Callee.builtin Builtin.append, args := #[Operand.tmp s, Operand.tmp x], argTypes := #[22, 22] }) (hs : a.tmps[s]?.getD undef = v) (hx : a.tmps[x]?.getD undef = .slice (some ⟨X, 0, none⟩) 1 1)
    (hown : w.ownsRow base 41 1 v n xs) (hc : w.heap[X]? = some (.cells #[.int .i64 q] 41 (0, 0))) (hn : n ≤ 100) (hb : base ≤ w.heap.size)
    (hK : ∀ v' w', w'.ownsRow base 41 1 v' (n + 1) (xs ++ [.int .i64 q]) → w.grownBy w' v.ownBlock → (v'.ownBlock = v.ownBlock ∨ v'.ownBlock = some w.heap.size) → K (a.put o.dst v') w') : o.wp Try.prog a w K Q := by
  have hs' : a.eval (Operand.tmp s) = v := by simp [go_sem, hs]
  have hx' : a.eval (Operand.tmp x) = .slice (some ⟨X, 0, none⟩) 1 1 := by simp [go_sem, hx]
  obtain ⟨v', w', hr, h2, h3, _, h5⟩ := run_append_own_at (P := Try.prog) w base 22 o.type 41 i (.int .i64 0) 1 8 Try.under22 hi hz hz1 hz2 rfl (by decide) v n xs hown ⟨X, 0, none⟩ 1 1 [.int .i64 q] rfl (by
    intro j u hj
    match j, hj with
    | 0, hj => simp at hj; subst hj; simp [World.cell?, hc, Addr.add]) c2_one (by unfold maxLen; omega) (by omega) hb
  unfold Oper.wp execOp
  simp only [hop, resolve, invoke, builtin, Sem.run_bind, Sem.run_pure, Result.andThen_ok, List.map_toArray, List.map_cons, List.map_nil, hs', hx', hr]
  exact hK v' w' h2 h3 h5
theorem op_indexQ {s t q n cap : Nat} {ad : Addr} (hop : o.op = Op.indexAddr 22 (Operand.tmp s) (Operand.tmp t)) (hs : a.tmps[s]?.getD undef = .slice (some ad) n cap) (ht : a.tmps[t]?.getD undef = .int .i64 (q : Nat)) (hq : q < n) (hK : K (a.put o.dst (.pointer (some (ad.add q)))) w) : o.wp Try.prog a w K Q := by
  have h2 : (q : Int) < (n : Int) := by omega
  unfold Oper.wp
  simp [execOp, hop, go_sem, hs, ht, h2]
  exact hK
theorem op_loadQ {s : Nat} {ad : Addr} {x : Int} (hop : o.op = Op.load 41 (Operand.tmp s)) (hs : a.tmps[s]?.getD undef = .pointer (some ad)) (hc : w.cell? ad = some (.int .i64 x)) (hK : K (a.put o.dst (.int .i64 x)) w) : o.wp Try.prog a w K Q := by
  unfold Oper.wp
  simp [execOp, hop, go_sem, hs, hc]
  exact hK
theorem op_fieldL {s b f : Nat} (hop : o.op = Op.fieldAddr 24 (Operand.tmp s) 2) (he : a.tmps[s]?.getD undef = .pointer (some ⟨b, f, none⟩)) (hk : K (a.put o.dst (.pointer (some ⟨b, f + 2, none⟩))) w) : o.wp Try.prog a w K Q := by
  unfold Oper.wp
  simp [execOp, hop, go_sem, he]
  exact hk
theorem op_loadL {s b f : Nat} {ao : Option Addr} {n cap : Nat} (hop : o.op = Op.load 22 (Operand.tmp s)) (he : a.tmps[s]?.getD undef = .pointer (some ⟨b, f, none⟩)) (hc : w.cell? ⟨b, f, none⟩ = some (.slice ao n cap)) (hk : K (a.put o.dst (.slice ao n cap)) w) : o.wp Try.prog a w K Q := by
  unfold Oper.wp
  simp [execOp, hop, go_sem, he, hc]
  exact hk
end
theorem own_agree {w w' : World} {B n : Nat} {v : Value} {xs : List Value} (h : w.ownsRow B 41 1 v n xs) (hb : ∀ k, v.ownBlock = some k → w'.heap[k]? = w.heap[k]?) : w'.ownsRow B 41 1 v n xs := by
  refine ⟨h.1, ?_⟩
  rcases h.2 with h0 | ⟨g, cap, cur, hv, hg, hh, r⟩
  · exact .inl h0
  · exact .inr ⟨g, cap, cur, hv, hg, (hb g (by rw [hv]; rfl)).trans hh, r⟩
end Go.Proofs.Ytiniobcknmaigaa
