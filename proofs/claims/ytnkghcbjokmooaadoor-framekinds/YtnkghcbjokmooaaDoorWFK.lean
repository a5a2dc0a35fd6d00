/-
  The walk of FrameKinds.
-/
import Derived.Test.YtnkghcbjokmooaaDoorFS
namespace Go.Proofs.YtnkghcbjokmooaaDoor.Gr
open Go.RowKit Go.Sort Qm
set_option linter.unusedVariables false

theorem own_keep {w w' : World} {base n : Nat} {e : TypeId} {v : Value} {xs : List Value} (h : w.ownsRow base e 1 v n xs) (hb : Below w.heap.size w w') : w'.ownsRow base e 1 v n xs := by
  refine h.kept (gb_below none hb) ?_
  cases hv : v.ownBlock with
  | none => exact .inl rfl
  | some m => exact .inr (fun e => by cases e)
theorem box_past {W w1 : World} {tmp : Obj} {row B i b : Nat} {v : Value} {o : Obj} (h : W.heap[b]? = some o) (hg : (W.alloc tmp).grownBy w1 (some row)) (h1 : b ≠ row) (h2 : b ≠ B) : (w1.setCell ⟨B, i, none⟩ v).heap[b]? = some o :=
  (Below.heap_setCell w1 ⟨B, i, none⟩ v b h2).trans ((hg.block b (lt_of_block (heap_old h tmp)) (fun e => h1 (by injection e))).trans (heap_old h tmp))
/-- 'make' of words -/
theorem make64 {ops : Array Oper} {rest : List Oper} {o : Oper} {a : Act} {Q : Exit → Act → World → Prop} {w : World} (hg : o.guard = none) (l c : Operand) (hop : o.op = Op.makeSlice 22 l c) (n : Nat)
    (hl : a.eval l = .int .i64 n) (hc : a.eval c = .int .i64 n) (hn : n ≤ 100000)
    (hK : ∀ w', w'.ownsRow w.heap.size 2 1 (.slice (some ⟨w.heap.size, 0, none⟩) n n) n ((List.replicate n (0 : Int)).map vw) → Below w.heap.size w w' → wpList Tryd.prog ops Q rest (a.put o.dst (.slice (some ⟨w.heap.size, 0, none⟩) n n)) w') :
    wpList Tryd.prog ops Q (o :: rest) a w := by
  obtain ⟨i0, hi, hz0, hz1, hz2⟩ := info_parts info2
  refine wpList_make_full _ hg l c 22 hop w.heap.size 2 i0 (.int .i64 0) 1 under22 hi hz0 hz1 .i64 .i64 n n n hl hc rfl rfl (by rw [hz2]; omega) (by unfold maxLen; omega) (Nat.le_refl _) fun w' h1 h2 => hK w' ?_ (gb_none h2)
  have e : (madeCells (Value.int .i64 0).cells (n * 1)).toList = (List.replicate n (0 : Int)).map vw := by
    rw [Nat.mul_one]
    show (madeCells #[Value.int .i64 0] n).toList = _
    rw [toList_madeCells_one, List.map_replicate]
  rw [← e]; exact h1

set_option maxRecDepth 20000 in
set_option maxHeartbeats 2000000 in
theorem frameKinds_walk (k : Int) (w : World) (hG : Longs w) :
    Calls Tryd.prog 7 #[.int .i64 k] w fun e w' => e = .returned (.bool true) ∧ Below w.heap.size w w' := by
  have cS := shown8 w hG
  have cL := fun (u : World) (h : Below w.heap.size w u) => long_any k u (hG.below h)
  by_cases hk : 1 ≤ k ∧ k ≤ 8
  · obtain ⟨k1, k8⟩ := hk
    have hpos : 0 < longS k := by
      rcases (by omega : k = 1 ∨ k = 2 ∨ k = 3 ∨ k = 4 ∨ k = 5 ∨ k = 6 ∨ k = 7 ∨ k = 8) with rfl | rfl | rfl | rfl | rfl | rfl | rfl | rfl <;> decide
    have h18 := longS_le k
    have hlen : (List.replicate (longS k) (0 : Int)).length = longS k := by simp
    have hr : rightS k (List.replicate (longS k) (0 : Int)).length = true := by rw [hlen]; unfold rightS; simp; exact hpos
    have hrange : ∀ x ∈ List.replicate (longS k) (0 : Int), -9223372036854775808 ≤ x ∧ x ≤ 9223372036854775807 := fun x hx => by
      have := (List.mem_replicate.1 hx).2
      subst this
      omega
    obtain ⟨dE, dK, dN⟩ := dec_enc hr hrange
    have hno : rightS k (longS k + 1) = false := by unfold rightS; simp
    have cE := fun (u : World) (v : Value) (h : Below w.heap.size w u) (s : SeesI u v (List.replicate (longS k) (0 : Int))) => encode_yes k v _ hr u s (hG.below h)
    have cD := fun (u : World) (v : Value) (h : Below w.heap.size w u) (s : SeesB u v (encS k (List.replicate (longS k) (0 : Int)))) => decode_yes v _ (by rw [encS_len, hlen]; omega) dE u s (hG.below h)
    have cN := fun (u : World) (ao : Option Addr) (cap : Nat) (h : Below w.heap.size w u) => encode_no k ao (longS k + 1) cap hno u (hG.below h)
    rw [dK, dN] at cD
    have HO : Hid (∀ (b : World) (v : Value) B N, b.ownsRow B 5 1 v N ((encS k (List.replicate (longS k) (0 : Int))).map vb) → SeesB b v (encS k (List.replicate (longS k) (0 : Int)))) := fun b v B N h => Row.own h
    have HL : Hid ((List.replicate (longS k) (0 : Int)).length = longS k) := hlen
    rw [hlen] at cE
    clear hr hrange dE dK dN hno hlen
    generalize encS k (List.replicate (longS k) (0 : Int)) = Z at cE cD HO
    generalize longS k = L at *
    generalize hZ : List.replicate L (0 : Int) = zs at *
    have HZ : Hid (List.replicate L (0 : Int) = zs) := hZ
    have m5 : wrap64 (8 * (L : Int)) = 8 * (L : Int) := by unfold wrap64; omega
    have m6 : wrap64 (5 + 8 * (L : Int)) = 5 + 8 * (L : Int) := by unfold wrap64; omega
    have l0 : (0 : Int) < (L : Int) := by omega
    clear hZ
    go_enter Tryd.func7, Tryd.ntmps7
    go_wp2_with (first
      | (go_at_call 10; refine cS.mono ?_; rintro e w1 ⟨rfl, b1⟩)
      | (go_at_call 17; refine (cL _ b1).mono ?_; rintro e w2 ⟨rfl, b2⟩; have B2 := bt b1 b2)
      | (have _ := B2; refine make64 rfl _ _ rfl L rfl rfl (by omega) ?_; intro w3 ho3 b3; rw [HZ.out] at ho3; have B3 := bt B2 b3; have B4 := bt B3 (box_below w3 (.cells #[.int .i64 k, .slice (some ⟨w2.heap.size, 0, none⟩) L L] 24)))
      | (have _ := b6; go_at_call 11; refine (cN _ _ _ B7).mono ?_; rintro e w8 ⟨rfl, b8⟩; obtain ⟨x0, x1, _, _⟩ := two_cells (keep b8 hG7))
      | (have _ := B3; go_at_call 11; refine (cE _ _ B4 (Row.own (ho3.alloc _))).mono ?_; rintro e w5 ⟨g5, G5, rfl, ho5, b5⟩; have hz5 := HO.out _ _ _ _ ho5; have B5 := bt B4 b5)
      | (go_at_call 13; refine (cD _ _ B5 hz5).mono ?_; rintro e w6 ⟨v6, rfl, s6, b6⟩; obtain ⟨o6, p6, rfl⟩ := s6.slice; rw [HL.out]; have B6 := bt B5 b6; have hF6 : FBox w6 w3.heap.size k (.slice (some ⟨w2.heap.size, 0, none⟩) L L) := keep b6 (keep b5 (heap_new w3 _)); have ho6 := own_keep (own_keep (ho3.alloc (.cells #[.int .i64 k, .slice (some ⟨w2.heap.size, 0, none⟩) L L] 24)) b5) b6; have q1 := fun o => (two_cells (heap_old hF6 o)).2.1; have hs26 : w2.heap.size ≤ w6.heap.size := Nat.le_trans b3.size (Nat.le_of_lt hF6.lt))
      | (have _ := B6; at_builtin; refine app64 rfl _ _ rfl w2.heap.size _ L _ rfl ((ho6.alloc _).alloc _) (le_alloc (le_alloc hs26 _) _) _ [0] rfl (one64' _ 0 _ (by simp)) (by simp; omega) ?_; intro v7 w7 ho7 hg7; obtain ⟨g7, c7, rfl⟩ := ownsRow_succ ho7; obtain ⟨z1, z2, z3, z4, z5, z6⟩ := FBox.appended (n₁ := w.heap.size) (heap_old hF6 _) (ho6.alloc _) (le_alloc hs26 _) (Nat.le_trans B2.size b3.size) B2.size ho7 hg7; obtain ⟨y0, y1, y2, y3⟩ := two_cells (show w7.heap[w3.heap.size]? = some (.cells #[.int .i64 k, .slice (some ⟨w2.heap.size, 0, none⟩) L L] 24 (0, 0)) from z1); obtain ⟨y4, y5, y6, y7⟩ := two_cells (show (w7.setCell ⟨w3.heap.size, 1, none⟩ (.slice (some ⟨g7, 0, none⟩) (L + 1) c7)).heap[w3.heap.size]? = some (.cells #[.int .i64 k, .slice (some ⟨g7, 0, none⟩) (L + 1) c7] 24 (0, 0)) from z2); have B7 := (bt B6 (box_below w6 _)).trans z5; have hl36 := hF6.lt; have hl23 := b3.size; have hG7 := box_past (B := w3.heap.size) (i := 1) (v := .slice (some ⟨g7, 0, none⟩) (L + 1) c7) (heap_new w6 (.cells #[.int .i64 k, .slice o6 L p6] 24)) hg7 (Nat.ne_of_gt (Nat.lt_of_le_of_lt hl23 hl36)) (Nat.ne_of_gt hl36)))
    go_ret
    exact ⟨rfl, bt B7 b8⟩
  · have hL : longS k = 0 := longS_out (by omega)
    rw [hL] at cL
    clear hG hL
    by_cases h1 : k < 1
    · go_enter Tryd.func7, Tryd.ntmps7
      go_wp2_with (first
        | (go_at_call 10; refine cS.mono ?_; rintro e w1 ⟨rfl, b1⟩)
        | (go_at_call 17; refine (cL _ b1).mono ?_; rintro e w2 ⟨rfl, b2⟩))
      go_ret
      exact ⟨rfl, bt b1 b2⟩
    · have h8 : 8 < k := by omega
      go_enter Tryd.func7, Tryd.ntmps7
      go_wp2_with (first
        | (go_at_call 10; refine cS.mono ?_; rintro e w1 ⟨rfl, b1⟩)
        | (go_at_call 17; refine (cL _ b1).mono ?_; rintro e w2 ⟨rfl, b2⟩))
      go_ret
      exact ⟨rfl, bt b1 b2⟩
end Go.Proofs.YtnkghcbjokmooaaDoor.Gr
