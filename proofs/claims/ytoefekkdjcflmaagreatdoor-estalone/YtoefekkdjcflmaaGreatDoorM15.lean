/- Parts of the proof. -/
import Derived.Laws.Cover3
import Derived.Test.YtoefekkdjcflmaaGreatDoorM14
namespace Go.Proofs.YtoefekkdjcflmaaGreatDoor
open Go.RowKit Go.Sort Qm
def TTrk (B N Lo : Nat) (R C R' C' : Int) (xs ps : List Int) (v : Value) (S : Nat → Prop) (w : World) : Prop := ∃ ao ac bo bc, v = .agg #[.int .i64 R, .int .i64 C, .slice ao xs.length ac, .int .i64 R', .int .i64 C', .slice bo ps.length bc] ∧
  Sees w (.slice ao xs.length ac) xs ∧ Sees w (.slice bo ps.length bc) ps ∧ OkS B N S (.slice ao xs.length ac) ∧ OkS B N S (.slice bo ps.length bc) ∧ New Lo (.slice ao xs.length ac) ∧ New Lo (.slice bo ps.length bc)
theorem TTrk.stab {B N Lo : Nat} {R C R' C' : Int} {xs ps : List Int} {v : Value} {S : Nat → Prop} {w w' : World} (h : TTrk B N Lo R C R' C' xs ps v S w) (ha : Agr B N S w w') : TTrk B N Lo R C R' C' xs ps v S w' := by
  obtain ⟨ao, ac, bo, bc, h1, h2, h3, h4, h5⟩ := h
  exact ⟨ao, ac, bo, bc, h1, h2.agr h4 ha, h3.agr h5.1 ha, h4, h5⟩
def TStT (B N Lo : Nat) (R C R' C' : Int) (xs ps : List Int) (S : Nat → Prop) (w : World) : Prop := S N ∧ ∃ ao ac bo bc, w.heap[N]? = some (.cells #[.int .i64 R, .int .i64 C, .slice ao xs.length ac, .int .i64 R', .int .i64 C', .slice bo ps.length bc] 31 (0, 0)) ∧
  Sees w (.slice ao xs.length ac) xs ∧ Sees w (.slice bo ps.length bc) ps ∧ OkS B N S (.slice ao xs.length ac) ∧ OkS B N S (.slice bo ps.length bc) ∧ New Lo (.slice ao xs.length ac) ∧ New Lo (.slice bo ps.length bc)
theorem TStT.stab {B N Lo : Nat} {R C R' C' : Int} {xs ps : List Int} {S : Nat → Prop} {w w' : World} (h : TStT B N Lo R C R' C' xs ps S w) (ha : Agr B N S w w') : TStT B N Lo R C R' C' xs ps S w' := by
  obtain ⟨h0, ao, ac, bo, bc, h1, h2, h3, h4, h5⟩ := h
  exact ⟨h0, ao, ac, bo, bc, (ha.2 N (.inl h0)).trans h1, h2.agr h4 ha, h3.agr h5.1 ha, h4, h5⟩
theorem mod_six {w : World} {N : Nat} (y0 y1 y2 y3 y4 y5 : Value) : Mod (fun b => b = N) w ((((((w.setCell ⟨N, 0, none⟩ y0).setCell ⟨N, 1, none⟩ y1).setCell ⟨N, 2, none⟩ y2).setCell ⟨N, 3, none⟩ y3).setCell ⟨N, 4, none⟩ y4).setCell ⟨N, 5, none⟩ y5) :=
  Mod.ofGb (gb_set (gb_set (gb_set (gb_set (gb_set (gb_set (gb_refl w (some N)) 0 y0) 1 y1) 2 y2) 3 y3) 4 y4) 5 y5)
section
variable {a : Act} {w : World} {K : Act → World → Prop} {Q : Exit → Act → World → Prop} {o : Oper}
theorem op_loadT {s b : Nat} {R c R' c' : Int} {ao bo : Option Addr} {n cap m bcap : Nat} (hop : o.op = Op.load 31 (Operand.tmp s)) (he : a.tmps[s]?.getD undef = .pointer (some ⟨b, 0, none⟩))
    (hb : w.heap[b]? = some (.cells #[.int .i64 R, .int .i64 c, .slice ao n cap, .int .i64 R', .int .i64 c', .slice bo m bcap] 31 (0, 0)))
    (hk : K (a.put o.dst (.agg #[.int .i64 R, .int .i64 c, .slice ao n cap, .int .i64 R', .int .i64 c', .slice bo m bcap])) w) : o.wp Tryz.prog a w K Q := by
  have h : w.cell? ⟨b, 0, none⟩ = some (.int .i64 R) ∧ w.cell? ⟨b, 1, none⟩ = some (.int .i64 c) ∧ w.cell? ⟨b, 2, none⟩ = some (.slice ao n cap) ∧ w.cell? ⟨b, 3, none⟩ = some (.int .i64 R') ∧ w.cell? ⟨b, 4, none⟩ = some (.int .i64 c') ∧ w.cell? ⟨b, 5, none⟩ = some (.slice bo m bcap) := by simp [World.cell?, hb]
  obtain ⟨c0, c1, c2, c3, c4, c5⟩ := h
  unfold Oper.wp
  simp [execOp, hop, go_sem, he, c0, c1, c2, c3, c4, c5]
  exact hk
theorem op_fieldN {s b : Nat} (hop : o.op = Op.fieldAddr 141 (Operand.tmp s) 0) (he : a.tmps[s]?.getD undef = .pointer (some ⟨b, 0, none⟩)) (hk : K (a.put o.dst (.pointer (some ⟨b, 0, none⟩))) w) : o.wp Tryz.prog a w K Q := by
  unfold Oper.wp
  simp [execOp, hop, go_sem, he]
  exact hk
theorem op_loadB {s b : Nat} {v : Bool} (hop : o.op = Op.load 4 (Operand.tmp s)) (he : a.tmps[s]?.getD undef = .pointer (some ⟨b, 0, none⟩)) (hc : w.cell? ⟨b, 0, none⟩ = some (.bool v)) (hk : K (a.put o.dst (.bool v)) w) : o.wp Tryz.prog a w K Q := by
  unfold Oper.wp
  simp [execOp, hop, go_sem, he, hc]
  exact hk
end
namespace Qm
theorem evn_len (c : Nat) (xs : List Int) : (evn c xs).length = c * c := tab_len _ _
end Qm
theorem right_mk {xs : List Int} {R C : Nat} (h : IsRight R C xs R C) : rightB R C xs = true := by
  unfold rightB
  rw [laidB_mk h.r1 h.r8 h.c1 h.c8 h.len]
  have : outB xs xs.length = false := anyB_none fun k _ => ob_in (h.ins k).1 (h.ins k).2
  rw [this]; rfl
end Go.Proofs.YtoefekkdjcflmaaGreatDoor
namespace Go.Proofs.YtoefekkdjcflmaaGreatDoor
open Go.RowKit Go.Sort Qm
namespace Qm
theorem trn_len (r c : Nat) (xs : List Int) : (trn r c xs).length = c * r := tab_len _ _
theorem trn_at {r c i j : Nat} (xs : List Int) (hi : i < c) (hj : j < r) : ge (trn r c xs) (i * r + j) = ge xs (j * c + i) := by
  unfold trn
  rw [ge_tab (at_lt hi hj), mod_of hj, div_of hj]
end Qm
end Go.Proofs.YtoefekkdjcflmaaGreatDoor
namespace Go.Proofs.YtoefekkdjcflmaaGreatDoor
open Go.RowKit Go.Sort Qm
namespace Qm
def midL (r n : Nat) (xs ps : List Int) : List Int := prd r n r (prd r n n xs ps) (trn r n xs)
def midB (r n : Nat) (xs ps : List Int) : Bool := prdB r n n xs ps || prdB r n r (prd r n n xs ps) (trn r n xs)
theorem prd_len (r n c : Nat) (xs ys : List Int) : (prd r n c xs ys).length = r * c := tab_len _ _
end Qm
end Go.Proofs.YtoefekkdjcflmaaGreatDoor
namespace Go.Proofs.YtoefekkdjcflmaaGreatDoor
open Go.RowKit Go.Sort Qm
theorem six_cells {w : World} {b : Nat} {x y z u v t : Value} {T : TypeId} (h : w.heap[b]? = some (.cells #[x, y, z, u, v, t] T (0, 0))) :
    w.cell? ⟨b, 0, none⟩ = some x ∧ w.cell? ⟨b, 1, none⟩ = some y ∧ w.cell? ⟨b, 2, none⟩ = some z ∧ w.cell? ⟨b, 3, none⟩ = some u ∧ w.cell? ⟨b, 4, none⟩ = some v ∧ w.cell? ⟨b, 5, none⟩ = some t := by
  simp [World.cell?, h]
theorem six_free {w : World} {b : Nat} {x y z u v t : Value} {T : TypeId} (h : w.heap[b]? = some (.cells #[x, y, z, u, v, t] T (0, 0))) :
    w.frozen? ⟨b, 0, none⟩ = false ∧ w.frozen? ⟨b, 1, none⟩ = false ∧ w.frozen? ⟨b, 2, none⟩ = false ∧ w.frozen? ⟨b, 3, none⟩ = false ∧ w.frozen? ⟨b, 4, none⟩ = false ∧ w.frozen? ⟨b, 5, none⟩ = false := by
  simp [World.frozen?, h]
theorem Sees.first {w : World} {v : Value} {xs : List Int} (h : Sees w v xs) (hl : xs.length = 1) : ∃ a cap, v = .slice (some a) 1 cap ∧ a.block < w.heap.size ∧ w.cell? a = some (.int .i64 (ge xs 0)) := by
  obtain ⟨ao, cap, rfl, hc⟩ := h
  obtain ⟨ad, rfl, h1, h2⟩ := hc 0 (by omega)
  have e : ad.add 0 = ad := by
    obtain ⟨b, o, m⟩ := ad
    cases m <;> simp [Addr.add]
  rw [e] at h2
  exact ⟨ad, cap, by rw [hl], h1, h2⟩
namespace Qm
def inY (n : Nat) (xs hs : List Int) (z : Int) : Int := sub z (ge (prd 1 n 1 hs xs) 0)
def inS (n : Nat) (ps hs : List Int) (r : Int) : Int := add (ge (midL 1 n hs ps) 0) r
def inF (n : Nat) (xs ps hs : List Int) (z r : Int) : Bool := prdB 1 n 1 hs xs || subB z (ge (prd 1 n 1 hs xs) 0) || midB 1 n hs ps || addB (ge (midL 1 n hs ps) 0) r
end Qm
end Go.Proofs.YtoefekkdjcflmaaGreatDoor
namespace Go.Proofs.YtoefekkdjcflmaaGreatDoor
open Go.RowKit Go.Sort Qm
theorem sees_vals {w : World} {ao : Option Addr} {cap : Nat} {xs : List Int} {ad : Addr} (h : Sees w (.slice ao xs.length cap) xs) (ha : ao = some ad) : ∀ (j : Nat) (u : Value), (xs.map (Value.int .i64))[j]? = some u → w.cell? (ad.add j) = some u := by
  intro j u hj
  obtain ⟨ao', cap', e, hc⟩ := h
  rw [List.getElem?_map] at hj
  obtain ⟨x, hx, rfl⟩ := Option.map_eq_some_iff.1 hj
  obtain ⟨hl, hg⟩ := List.getElem?_eq_some_iff.1 hx
  obtain ⟨ad', e2, _, h3⟩ := hc j hl
  injection e with e3
  rw [ha, e2] at e3
  injection e3 with e4
  rw [e4, h3]
  unfold ge
  rw [List.getD_eq_getElem?_getD, hx]; rfl
theorem run_nil22 (a : Option Addr) (l c : Nat) (w : World) : Sem.run Tryz.prog (binOp BinOp.eql 27 (.slice a l c) (.slice none 0 0)) w = .ok (.bool a.isNone) w := by
  have h := run_equal_slice_nil (P := Tryz.prog) (w := w) 27 22 a l c Tryz.under22
  simp [binOp, go_sem, h]
theorem vals_one (xs : List Int) : ∀ u ∈ xs.map (Value.int .i64), u.oneCell' = true := by
  intro u hu
  obtain ⟨x, _, rfl⟩ := List.mem_map.1 hu
  rfl
set_option maxRecDepth 20000 in
set_option maxHeartbeats 400000 in
theorem clone_at (ad : Addr) (cap : Nat) (xs : List Int) (hn : xs.length ≤ 100) (w : World) (hs : Sees w (.slice (some ad) xs.length cap) xs) :
    Calls Tryz.prog 85 #[.slice (some ad) xs.length cap] w fun e b => ∃ v', e = .returned v' ∧ Sees b v' xs ∧ New w.heap.size v' ∧ Below w.heap.size w b := by
  obtain ⟨i0, hi, hz0, hz1, hz2⟩ := info_parts Tryz.info33
  have hv := fun o => sees_vals (hs.alloc o) rfl
  have HE : Hid (∀ (b : World) (v : Value), b.ownsRow w.heap.size 22 1 v xs.length (xs.map (Value.int .i64)) → Sees b v xs ∧ New w.heap.size v) := fun b v h => ⟨Sees.own h, New.own h⟩
  have hl : (xs.map (Value.int .i64)).length = xs.length := by simp
  have ho := vals_one xs
  generalize xs.map (Value.int .i64) = vals at hv hl HE ho
  obtain ⟨n, hn'⟩ : ∃ n, xs.length = n := ⟨_, rfl⟩
  rw [hn'] at hn hl hs HE ⊢
  clear hn'
  have HL : Hid (vals.length = n * 1) := by rw [Nat.mul_one]; exact hl
  have hnil := fun v => run_nil22 (some ad) n cap v
  have h0 : (w.alloc (.cells #[] 22)).ownsRow w.heap.size 22 1 (.slice (some ⟨w.heap.size, 0, none⟩) 0 0) 0 [] := ⟨rfl, .inr ⟨_, 0, #[], rfl, Nat.le_refl _, heap_new _ _, Nat.le_refl _, Nat.zero_le _, rfl, rfl⟩⟩
  clear hl
  go_enter Tryz.func85, Tryz.ntmps85
  go_wp2_with (at_builtin; go_must (refine wpList_append_own _ rfl _ _ 27 rfl w.heap.size 22 i0 (.int .i64 0) 1 8 Tryz.under22 hi hz0 hz1 hz2 rfl (by decide) _ _ _ rfl h0 ad n cap vals rfl HL.out (hv _) ho (by unfold maxLen; omega) (by omega) (by simp) ?_); intro v2 w2 hown2 hg2 hnil2)
  have b2 : Below w.heap.size w w2 := (box_below w _).trans (((Below.refl _ _)).grown hg2 (by simp) (fun m e => by cases e; exact Nat.le_refl _))
  have h3 := HE.out w2 v2 (by simpa using hown2)
  clear hown2 hg2 hnil2
  go_wp2
  go_ret
  exact ⟨_, rfl, h3.1, h3.2, b2⟩
theorem clone_any (v : Value) (xs : List Int) (h0 : 0 < xs.length) (hn : xs.length ≤ 100) (w : World) (hs : Sees w v xs) :
    Calls Tryz.prog 85 #[v] w fun e b => ∃ v', e = .returned v' ∧ Sees b v' xs ∧ New w.heap.size v' ∧ Below w.heap.size w b := by
  obtain ⟨ao, cap, rfl, hc⟩ := id hs
  obtain ⟨ad, rfl, _⟩ := hc 0 h0
  exact clone_at ad cap xs hn w hs
theorem enters_clone : ∀ (args : Array Value) (a : World), Sem.run Tryz.prog (callFunc 85 args) a = Result.ok (Next.enter 85 args) a := by
  intro args a
  simp [callFunc, Tryz.func85, go_sem]
  rfl
set_option maxRecDepth 20000 in
set_option maxHeartbeats 800000 in
theorem passes_any (N : Nat) (m : Bool) (y s gate : Int) (w : World) (hN : w.heap[N]? = some (.cells #[.bool m, .int .i64 0] 141 (0, 0))) :
    Calls Tryz.prog 169 #[.func (.func 112) #[.pointer (some ⟨N, 0, none⟩)] #[], .int .i64 y, .int .i64 s, .int .i64 gate] w fun e b => e = .returned (.bool (decide (mul y y ≤ mul gate s) && decide (0 < s))) ∧
      b.heap[N]? = some (.cells #[.bool (m || mulB y y || mulB gate s), .int .i64 0] 141 (0, 0)) ∧ w.grownBy b (some N) := by
  have HE := enters_keep
  have k1 := fun v => mul_any y y v
  have k2 := fun v => mul_any gate s v
  generalize mul y y = A at k1 ⊢
  generalize mul gate s = B at k2 ⊢
  generalize mulB y y = ma at k1 ⊢
  generalize mulB gate s = mb at k2 ⊢
  cases hA : decide (A ≤ B)
  all_goals
    go_enter Tryz.func169, Tryz.ntmps169
    go_wp2_with (first
      | (have _ := hg2; have _ := b3; go_at_call 112; go_must (refine (keep_any N (m || ma) mb _ (keep b3 hn2)).mono ?_); rintro e w4 ⟨rfl, hn4, hg4⟩)
      | (have _ := hg2; go_at_call 99; go_must (refine (k2 _).mono ?_); rintro e w3 ⟨rfl, b3⟩)
      | (have _ := b1; go_at_call 112; go_must (refine (keep_any N m ma _ (keep b1 hN)).mono ?_); rintro e w2 ⟨rfl, hn2, hg2⟩)
      | (go_at_call 99; go_must (refine (k1 _).mono ?_); rintro e w1 ⟨rfl, b1⟩))
    go_ret
    exact ⟨by simp, hn4, gb_trans (gb_trans (gb_trans (gb_below _ b1) hg2) (gb_below _ b3)) hg4⟩
theorem wp_region_own2 {P : Program} {id : Nat} {ops : Array Oper} {Q : Exit → Act → World → Prop} {w0 : World} (hm : P.follows .mixedOrders = true) (hlt : ∀ i, i < ops.size → ∀ k ∈ pres ops i, k < i)
    (dst : Nat → Nat) (inj : ∀ i, i < ops.size → ∀ j, j < ops.size → dst i = dst j → i = j) (fr : (Nat → Value) → Act) (vs0 : Nat → Value) (aux : Nat → Nat) (haux : ∀ i, i < ops.size → aux i = i ∨ aux i ∈ pres ops i)
    (Mo : Nat → Prop) (hMo : ∀ k, Mo k → k < w0.heap.size) (wr : Nat → Nat → Prop) (hwr : ∀ i k, wr i k → Mo k) (hwr1 : ∀ i j k, wr i k → wr j k → i = j)
    (kill : Nat → Nat → Prop) (hk1 : ∀ s j, kill s j → s < ops.size ∧ j ∈ pres ops s) (hk2 : ∀ s j, kill s j → ∀ i, i < ops.size → j ∈ pres ops i → i = s ∨ i ∈ pres ops s ∨ ∃ m ∈ pres ops s, i ∈ pres ops m)
    (T : Nat → Value → Value → (Nat → Prop) → World → Prop)
    (hstab : ∀ i v u S w w', i < ops.size → T i v u S w → Mod Mo w0 w → Mod Mo w0 w' → w.heap.size ≤ w'.heap.size → (∀ k, S k → w'.heap[k]? = w.heap[k]?) → T i v u S w')
    (hstep : ∀ i, i < ops.size → ∀ vs w (S : Nat → Nat → Prop), Mod Mo w0 w → (∀ k ∈ pres ops i, T k (vs (dst k)) (vs (dst (aux k))) (S k) w) → (∀ k ∈ pres ops i, ∀ b, S k b → b < w.heap.size ∧ ¬ wr i b) →
      (∀ k, Mo k → (∀ j, wr j k → j < ops.size ∧ (j = i ∨ i ∈ pres ops j)) → w.heap[k]? = w0.heap[k]?) → (∀ j, kill i j → ∀ k ∈ pres ops i, k ≠ j → ∀ b, S j b → ¬ S k b) → (∀ k, (∀ j, j < ops.size → dst j = k → i ∈ pres ops j ∨ j = i) → vs k = vs0 k) →
      wpOp P ops Q i (fun a' w' => ∃ v S', a' = fr (fun k => if k = dst i then v else vs k) ∧ T i v (if aux i = i then v else vs (dst (aux i))) S' w' ∧
        (∀ b, S' b → (∃ k ∈ pres ops i, (∀ s, kill s k → s = i) ∧ S k b) ∨ (w.heap.size ≤ b ∧ b < w'.heap.size) ∨ wr i b) ∧ ((∃ s, kill s i) → ∀ b, S' b → w.heap.size ≤ b ∨ wr i b) ∧ Mod (fun b => wr i b ∨ ∃ j, kill i j ∧ S j b) w w') (fr vs) w)
    (hend : ∀ vs w (S : Nat → Nat → Prop), Mod Mo w0 w → (∀ i, i < ops.size → (∀ s, ¬ kill s i) → T i (vs (dst i)) (vs (dst (aux i))) (S i) w) → Q .normal (fr vs) w) : (Code.region id ops true).wp P Q (fr vs0) w0 := by
  refine wp_region_L hm hlt (fun L a w => ∃ vs, ∃ S : Nat → Nat → Prop, a = fr vs ∧ Mod Mo w0 w ∧ (∀ i, i < ops.size → L i = true → (∀ s, kill s i → L s = false) → T i (vs (dst i)) (vs (dst (aux i))) (S i) w) ∧
    (∀ i, i < ops.size → L i = true → ∀ b, S i b → b < w.heap.size) ∧ (∀ i, i < ops.size → L i = true → ∀ b, S i b → b < w0.heap.size → ∃ j, L j = true ∧ wr j b) ∧
    (∀ k, Mo k → (∀ i, wr i k → L i = false) → w.heap[k]? = w0.heap[k]?) ∧
    (∀ j, j < ops.size → L j = true → (∃ s, kill s j) → (∀ s, kill s j → L s = false) → ∀ i, i < ops.size → L i = true → i ≠ j → ∀ b, S j b → ¬ S i b) ∧
    (∀ k, (∀ j, j < ops.size → dst j = k → L j = false) → vs k = vs0 k)) ?_ ?_ ?_
  · exact ⟨vs0, fun _ _ => False, rfl, Mod.of (Below.refl _ _).drew, fun i _ h => (by cases h), fun i _ h => (by cases h), fun i _ h => (by cases h), fun _ _ _ => rfl, fun i _ h => (by cases h), fun _ _ => rfl⟩
  · rintro L a w i hi ⟨vs, S, rfl, hb, hT, hlt', hold, hmo, hdis, hv⟩ hc hL hp
    have hin : ∀ k ∈ pres ops i, k < ops.size := fun k hk => Nat.lt_trans (hlt i hi k hk) hi
    have hlive : ∀ k ∈ pres ops i, ∀ s, kill s k → L s = false := fun k hk s hs => by
      rcases hk2 s k hs i hi hk with h | h | ⟨m, hm1, hm2⟩
      · rw [← h]; exact hL
      · cases hLs : L s with
        | false => rfl
        | true => have := hc s (hk1 s k hs).1 hLs i h; rw [hL] at this; cases this
      · cases hLs : L s with
        | false => rfl
        | true => have := hc m (Nat.lt_trans (hlt s (hk1 s k hs).1 m hm1) (hk1 s k hs).1) (hc s (hk1 s k hs).1 hLs m hm1) i hm2; rw [hL] at this; cases this
    have hnw : ∀ j, j < ops.size → L j = true → ∀ b, S j b → ¬ wr i b := fun j hj hLj b hb1 hb2 => by
      obtain ⟨j', h1, h2⟩ := hold j hj hLj b hb1 (hMo b (hwr i b hb2))
      rw [hwr1 j' i b h2 hb2, hL] at h1; cases h1
    refine wpOp_mono ?_ (hstep i hi vs w S hb (fun k hk => hT k (hin k hk) (hp k hk) (hlive k hk)) (fun k hk b hSb => ⟨hlt' k (hin k hk) (hp k hk) b hSb, hnw k (hin k hk) (hp k hk) b hSb⟩) (fun k hk hw => hmo k hk fun j hj => by
        rcases (hw j hj).2 with h1 | h1
        · rw [h1]; exact hL
        · cases hLj : L j with
          | false => rfl
          | true => have := hc j (hw j hj).1 hLj i h1; rw [hL] at this; cases this)
      (fun j hj k hk hkj => hdis j (hin j (hk1 i j hj).2) (hp j (hk1 i j hj).2) ⟨i, hj⟩ (hlive j (hk1 i j hj).2) k (hin k hk) (hp k hk) hkj) (fun k hk => hv k fun j hj hjk => ?_))
    · rintro a' w' ⟨v, S', rfl, hTv, hS, hSk, hmod⟩
      have hb' : Mod Mo w0 w' := by
        refine ⟨hmod.os.trans hb.os, hmod.tape.trans hb.tape, hmod.output.trans hb.output, Nat.le_trans hb.size hmod.size, fun k hk hno => ?_⟩
        rw [hmod.block k (Nat.lt_of_lt_of_le hk hb.size) ?_, hb.block k hk hno]
        rintro (h | ⟨j, hj, hSj⟩)
        · exact hno (hwr i k h)
        · obtain ⟨j', _, h2⟩ := hold j (hin j (hk1 i j hj).2) (hp j (hk1 i j hj).2) k hSj hk
          exact hno (hwr j' k h2)
      have hkeep : ∀ j, j < ops.size → L j = true → (∀ s, kill s j → L s = false) → ¬ kill i j → ∀ b, S j b → w'.heap[b]? = w.heap[b]? := by
        intro j hj hLj hlj hnk b hSb
        refine hmod.block b (hlt' j hj hLj b hSb) ?_
        rintro (h | ⟨j', hj', hSj'⟩)
        · exact hnw j hj hLj b hSb h
        · have hp' := (hk1 i j' hj').2
          have hne : j ≠ j' := fun e => hnk (e ▸ hj')
          exact hdis j' (hin j' hp') (hp j' hp') ⟨i, hj'⟩ (hlive j' hp') j hj hLj hne b hSj' hSb
      have hsz0 : w0.heap.size ≤ w.heap.size := hb.size
      refine ⟨fun k => if k = dst i then v else vs k, fun j => if j = i then S' else S j, rfl, hb', ?_, ?_, ?_, ?_, ?_, ?_⟩
      · intro j hj hLj hlj
        by_cases e : j = i
        · subst e
          simp only [if_true]
          by_cases ea : aux j = j
          · rw [if_pos ea] at hTv
            rw [ea, if_pos rfl]; exact hTv
          · rw [if_neg ea] at hTv
            have hne : dst (aux j) ≠ dst j := fun h => by
              rcases haux j hj with h1 | h1
              · exact ea h1
              · exact ea (inj _ (hin _ h1) j hj h)
            rw [if_neg hne]; exact hTv
        · simp only [if_neg e] at hLj ⊢
          have hd : dst j ≠ dst i := fun h => e (inj j hj i hi h)
          have hai : aux j ≠ i := fun h => by
            rcases haux j hj with h1 | h1
            · exact e (h1.symm.trans h)
            · have := hc j hj hLj _ h1; rw [h, hL] at this; cases this
          have haj : aux j < ops.size := by
            rcases haux j hj with h1 | h1
            · rw [h1]; exact hj
            · exact Nat.lt_trans (hlt j hj _ h1) hj
          have hda : dst (aux j) ≠ dst i := fun h => hai (inj _ haj i hi h)
          rw [if_neg hd, if_neg hda]
          have hlj' : ∀ s, kill s j → L s = false := fun s hs => by
            have := hlj s hs
            by_cases es : s = i
            · simp [es] at this
            · simpa [es] using this
          have hnk : ¬ kill i j := fun h => by have := hlj i h; simp at this
          exact hstab j _ _ _ w w' hj (hT j hj hLj hlj') hb hb' hmod.size (hkeep j hj hLj hlj' hnk)
      · intro j hj hLj b hSb
        by_cases e : j = i
        · subst e
          simp only [if_true] at hSb
          rcases hS b hSb with ⟨k, hk, _, h⟩ | h | h
          · exact Nat.lt_of_lt_of_le (hlt' k (hin k hk) (hp k hk) b h) hmod.size
          · exact h.2
          · exact Nat.lt_of_lt_of_le (hMo b (hwr _ b h)) (Nat.le_trans hsz0 hmod.size)
        · simp only [if_neg e] at hLj hSb
          exact Nat.lt_of_lt_of_le (hlt' j hj hLj b hSb) hmod.size
      · intro j hj hLj b hSb h0
        have up : (∃ j, L j = true ∧ wr j b) → ∃ j, (if j = i then true else L j) = true ∧ wr j b := fun ⟨j, h1, h2⟩ => ⟨j, by by_cases e : j = i <;> simp [e, h1], h2⟩
        by_cases e : j = i
        · subst e
          simp only [if_true] at hSb
          rcases hS b hSb with ⟨k, hk, _, h⟩ | h | h
          · exact up (hold k (hin k hk) (hp k hk) b h h0)
          · omega
          · exact ⟨j, by simp, h⟩
        · simp only [if_neg e] at hLj hSb
          exact up (hold j hj hLj b hSb h0)
      · intro k hk hno
        have hni : ¬ wr i k := fun h => by have := hno i h; simp at this
        rw [hmod.block k (Nat.lt_of_lt_of_le (hMo k hk) hsz0) ?_]
        · refine hmo k hk fun j hj => ?_
          have := hno j hj
          by_cases e : j = i
          · simp [e] at this
          · simpa [e] using this
        · rintro (h | ⟨j, hj, hSj⟩)
          · exact hni h
          · obtain ⟨j', h1, h2⟩ := hold j (hin j (hk1 i j hj).2) (hp j (hk1 i j hj).2) k hSj (hMo k hk)
            have := hno j' h2
            by_cases e : j' = i
            · simp [e] at this
            · simp [e, h1] at this
      · intro j hj hLj hks hlj i2 hi2 hL2 hne b hSj hS2
        by_cases e : j = i
        · subst e
          simp only [if_true] at hSj
          simp only [if_neg hne] at hL2 hS2
          rcases hSk hks b hSj with h1 | h1
          · have h2 := hlt' i2 hi2 hL2 b hS2
            omega
          · exact hnw i2 hi2 hL2 b hS2 h1
        · simp only [if_neg e] at hLj hSj
          have hlj' : ∀ s, kill s j → L s = false := fun s hs => by
            have := hlj s hs
            by_cases es : s = i
            · simp [es] at this
            · simpa [es] using this
          have hnk : ¬ kill i j := fun h => by have := hlj i h; simp at this
          by_cases e2 : i2 = i
          · subst e2
            simp only [if_true] at hS2
            rcases hS b hS2 with ⟨k, hk, hks', h⟩ | h | h
            · have hkj : k ≠ j := fun ek => by
                subst ek
                obtain ⟨s, hs⟩ := hks
                exact hnk (hks' s hs ▸ hs)
              exact hdis j hj hLj hks hlj' k (hin k hk) (hp k hk) hkj b hSj h
            · have := hlt' j hj hLj b hSj; omega
            · exact hnw j hj hLj b hSj h
          · simp only [if_neg e2] at hL2 hS2
            exact hdis j hj hLj hks hlj' i2 hi2 hL2 hne b hSj hS2
      · intro k hk
        have hki : k ≠ dst i := fun h => by have := hk i hi h.symm; simp at this
        simp only [if_neg hki]
        exact hv k fun j hj hjk => by
          have h := hk j hj hjk
          by_cases e : j = i
          · subst e; simp at h
          · simpa [e] using h
    · rcases hk j hj hjk with h1 | h1
      · cases hLj : L j with
        | false => rfl
        | true => have := hc j hj hLj i h1; rw [hL] at this; cases this
      · rw [h1]; exact hL
  · rintro L a w ⟨vs, S, rfl, hb, hT, _⟩ hall
    exact hend vs w S hb fun i hi hk => hT i hi (hall i hi) fun s hs => absurd hs (hk s)
section
variable {a : Act} {w : World} {K : Act → World → Prop} {Q : Exit → Act → World → Prop} {o : Oper}
theorem op_fieldM2 {s b f : Nat} (hop : o.op = Op.fieldAddr 29 (Operand.tmp s) 2) (he : a.tmps[s]?.getD undef = .pointer (some ⟨b, f, none⟩)) (hk : K (a.put o.dst (.pointer (some ⟨b, f + 2, none⟩))) w) : o.wp Tryz.prog a w K Q := by
  unfold Oper.wp
  simp [execOp, hop, go_sem, he]
  exact hk
theorem op_loadS {s b f : Nat} {ao : Option Addr} {n cap : Nat} (hop : o.op = Op.load 27 (Operand.tmp s)) (he : a.tmps[s]?.getD undef = .pointer (some ⟨b, f, none⟩)) (hc : w.cell? ⟨b, f, none⟩ = some (.slice ao n cap)) (hk : K (a.put o.dst (.slice ao n cap)) w) : o.wp Tryz.prog a w K Q := by
  unfold Oper.wp
  simp [execOp, hop, go_sem, he, hc]
  exact hk
theorem op_storeS {p f b q : Nat} {ao : Option Addr} {n cap : Nat} {x : Value} (hd : o.dst = none) (hop : o.op = Op.store 27 (Operand.tmp p) (Operand.tmp f)) (hp : a.tmps[p]?.getD undef = .pointer (some ⟨b, q, none⟩)) (hf : a.tmps[f]?.getD undef = .slice ao n cap)
    (hc : w.cell? ⟨b, q, none⟩ = some x) (hz : w.frozen? ⟨b, q, none⟩ = false) (hk : K a (w.setCell ⟨b, q, none⟩ (.slice ao n cap))) : o.wp Tryz.prog a w K Q := by
  unfold Oper.wp
  simp [execOp, hop, go_sem, hp, hf, hc, hz, hd]
  exact hk
end
def TNum (B : Nat) (xs : List Int) (v : Value) (S : Nat → Prop) (w : World) : Prop := ∃ ao cap, v = .slice ao xs.length cap ∧ Sees w v xs ∧ ∀ k, v.ownBlock = some k → S k ∧ B ≤ k
theorem TNum.stab {B B' N : Nat} {xs : List Int} {v : Value} {S : Nat → Prop} {w w' : World} (h : TNum B xs v S w) (ha : Agr B' N S w w') : TNum B xs v S w' := by
  obtain ⟨ao, cap, h1, h2, h3⟩ := h
  exact ⟨ao, cap, h1, h2.agr (fun k hk => .inl (h3 k hk).1) ha, h3⟩
def THalf (N : Nat) (n1 c1 n2 c2 : Int) (old u : Value) (S : Nat → Prop) (w : World) : Prop := S N ∧ w.heap[N]? = some (.cells #[.int .i64 n1, .int .i64 c1, u, .int .i64 n2, .int .i64 c2, old] 31 (0, 0))
theorem THalf.stab {B N N' : Nat} {n1 c1 n2 c2 : Int} {old u : Value} {S : Nat → Prop} {w w' : World} (h : THalf N n1 c1 n2 c2 old u S w) (ha : Agr B N' S w w') : THalf N n1 c1 n2 c2 old u S w' := ⟨h.1, (ha.2 N (.inl h.1)).trans h.2⟩
def TBoth (B N : Nat) (n1 c1 n2 c2 : Int) (xs ps : List Int) (u : Value) (S : Nat → Prop) (w : World) : Prop := S N ∧ ∃ ao ac bo bc, u = .slice bo ps.length bc ∧ w.heap[N]? = some (.cells #[.int .i64 n1, .int .i64 c1, .slice ao xs.length ac, .int .i64 n2, .int .i64 c2, .slice bo ps.length bc] 31 (0, 0)) ∧
  Sees w (.slice ao xs.length ac) xs ∧ Sees w (.slice bo ps.length bc) ps ∧ (∀ k, (Value.slice ao xs.length ac).ownBlock = some k → S k ∧ B ≤ k) ∧ ∀ k, (Value.slice bo ps.length bc).ownBlock = some k → S k ∧ B ≤ k
theorem TBoth.stab {B B' N N' : Nat} {n1 c1 n2 c2 : Int} {xs ps : List Int} {u : Value} {S : Nat → Prop} {w w' : World} (h : TBoth B N n1 c1 n2 c2 xs ps u S w) (ha : Agr B' N' S w w') : TBoth B N n1 c1 n2 c2 xs ps u S w' := by
  obtain ⟨h0, ao, ac, bo, bc, h1, h2, h3, h4, h5, h6⟩ := h
  exact ⟨h0, ao, ac, bo, bc, h1, (ha.2 N (.inl h0)).trans h2, h3.agr (fun k hk => .inl (h5 k hk).1) ha, h4.agr (fun k hk => .inl (h6 k hk).1) ha, h5, h6⟩
end Go.Proofs.YtoefekkdjcflmaaGreatDoor

