/-
  The contract of 'shown', the document's example at the head of each statement: it returns true.
-/
import Derived.Test.YteohdhmimpajmaaMulM
import Derived.Test.YteohdhmimpajmaaTrans
import Derived.Test.YteohdhmimpajmaaRegL
import Derived.Deep.CutRange
namespace Go.Proofs.Yteohdhmimpajmaa
open Go.RowKit Go.Sort Qm

theorem prd_shown : prd 1 2 1 [16777216, 33554432] (trn 1 2 [16777216, 33554432]) = [83886080] := by decide
theorem prdB_shown : prdB 1 2 1 [16777216, 33554432] (trn 1 2 [16777216, 33554432]) = false := by decide
theorem put_mat {w : World} {b : Nat} {x y z x' y' z' : Value} {t : TypeId} (h : w.heap[b]? = some (.cells #[x, y, z] t (0, 0))) :
    (((w.setCell ⟨b, 0, none⟩ x').setCell ⟨b, 1, none⟩ y').setCell ⟨b, 2, none⟩ z').heap[b]? = some (.cells #[x', y', z'] t (0, 0)) := by
  have h1 := heap_setCell_same w b 0 #[x, y, z] t x' h
  have h2 := heap_setCell_same _ b 1 _ t y' h1
  exact heap_setCell_same _ b 2 _ t z' h2
theorem Sees.set' {w : World} {v : Value} {xs : List Int} (h : Sees w v xs) {a : Addr} (ha : ∀ k, v.ownBlock = some k → k ≠ a.block) (u : Value) : Sees (w.setCell a u) v xs := by
  obtain ⟨ao, cap, hv, hc⟩ := h
  refine ⟨ao, cap, hv, fun k hk => ?_⟩
  obtain ⟨ad, rfl, hl, hcell⟩ := hc k hk
  subst hv
  have h1 : ad.block ≠ a.block := ha ad.block rfl
  refine ⟨ad, rfl, by simpa [World.setCell] using hl, ?_⟩
  rw [World.cell?_of_block (w := w) (Below.heap_setCell _ _ _ _ (by rw [add_block]; exact h1))]; exact hcell
theorem Sees.lt {w : World} {v : Value} {xs : List Int} (h : Sees w v xs) (h0 : 0 < xs.length) : ∀ k, v.ownBlock = some k → k < w.heap.size := by
  obtain ⟨ao, cap, rfl, hc⟩ := h
  obtain ⟨ad, rfl, hl, _⟩ := hc 0 h0
  intro k hk
  cases hk
  exact hl

section
variable {a : Act} {w : World} {K : Act → World → Prop} {Q : Exit → Act → World → Prop} {o : Oper}
theorem op_alloc24 (hop : o.op = Op.alloc 24) (hk : K (a.put o.dst (.pointer (some ⟨w.heap.size, 0, none⟩))) (w.alloc (.cells #[.int .i64 0, .int .i64 0, .slice none 0 0] 24))) : o.wp Try.prog a w K Q := by
  unfold Oper.wp
  simp [execOp, hop, go_sem]
  exact hk
theorem op_store24 {p f b : Nat} {r c : Int} {ao : Option Addr} {n cap : Nat} {x y z : Value} (hd : o.dst = none) (hop : o.op = Op.store 24 (Operand.tmp p) (Operand.tmp f)) (hp : a.tmps[p]?.getD undef = .pointer (some ⟨b, 0, none⟩))
    (hf : a.tmps[f]?.getD undef = .agg #[.int .i64 r, .int .i64 c, .slice ao n cap]) (hb : w.heap[b]? = some (.cells #[x, y, z] 24 (0, 0)))
    (hk : K a (((w.setCell ⟨b, 0, none⟩ (.int .i64 r)).setCell ⟨b, 1, none⟩ (.int .i64 c)).setCell ⟨b, 2, none⟩ (.slice ao n cap))) : o.wp Try.prog a w K Q := by
  obtain ⟨c0, c1, c2, f0, f1, f2⟩ := mat_cells hb
  unfold Oper.wp
  simp [execOp, hop, go_sem, hp, hf, c0, c1, c2, f0, f1, f2, hd]
  exact hk
theorem op_move {s : Nat} {v : Value} (hop : o.op = Op.move (Operand.tmp s)) (hs : a.tmps[s]?.getD undef = v) (hk : K (a.put o.dst v) w) : o.wp Try.prog a w K Q := by
  unfold Oper.wp
  simp [execOp, hop, go_sem, hs]
  exact hk
theorem op_assign {s : Nat} {v : Value} (hop : o.op = Op.assign (Operand.tmp s)) (hs : a.tmps[s]?.getD undef = v) (hk : K (a.put o.dst v) w) : o.wp Try.prog a w K Q := by
  unfold Oper.wp
  simp [execOp, hop, go_sem, hs]
  exact hk
theorem op_extract {s i : Nat} {vs : Array Value} {v : Value} (hop : o.op = Op.extract (Operand.tmp s) i) (hs : a.tmps[s]?.getD undef = .tuple vs) (hv : vs[i]? = some v) (hk : K (a.put o.dst v) w) : o.wp Try.prog a w K Q := by
  unfold Oper.wp
  simp [execOp, hop, go_sem, hs, hv]
  exact hk
theorem op_call1 {f s : Nat} {v : Value} {ts : Array TypeId} {R : Ending → World → Prop} (hF : ∀ (args : Array Value) (a : World), Sem.run Try.prog (callFunc f args) a = Result.ok (Next.enter f args) a) (hop : o.op = Op.call { callee := Callee.value (Operand.func f), args := #[Operand.tmp s], argTypes := ts }) (hs : a.tmps[s]?.getD undef = v)
    (hc : Calls Try.prog f #[v] w R) (hk : ∀ e w', R e w' → ∃ x, e = .returned x ∧ K (a.put o.dst x) w') : o.wp Try.prog a w K Q := by
  unfold Oper.wp
  simp [execOp, hop, go_sem, hs, hF]
  refine hc.mono ?_
  intro e w' h
  obtain ⟨x, rfl, hx⟩ := hk e w' h
  exact hx
theorem op_call2 {f s t : Nat} {v u : Value} {ts : Array TypeId} {R : Ending → World → Prop} (hF : ∀ (args : Array Value) (a : World), Sem.run Try.prog (callFunc f args) a = Result.ok (Next.enter f args) a) (hop : o.op = Op.call { callee := Callee.value (Operand.func f), args := #[Operand.tmp s, Operand.tmp t], argTypes := ts }) (hs : a.tmps[s]?.getD undef = v) (ht : a.tmps[t]?.getD undef = u)
    (hc : Calls Try.prog f #[v, u] w R) (hk : ∀ e w', R e w' → ∃ x, e = .returned x ∧ K (a.put o.dst x) w') : o.wp Try.prog a w K Q := by
  unfold Oper.wp
  simp [execOp, hop, go_sem, hs, ht, hF]
  refine hc.mono ?_
  intro e w' h
  obtain ⟨x, rfl, hx⟩ := hk e w' h
  exact hx
end
theorem enters29 : ∀ (args : Array Value) (a : World), Sem.run Try.prog (callFunc 29 args) a = Result.ok (Next.enter 29 args) a := by
  intro args a
  simp [callFunc, Try.func29, go_sem]
  rfl
theorem enters16 : ∀ (args : Array Value) (a : World), Sem.run Try.prog (callFunc 16 args) a = Result.ok (Next.enter 16 args) a := by
  intro args a
  simp [callFunc, Try.func16, go_sem]
  rfl

/-- the operations of 'm, odd, e := mat.Mul(a, mat.Trans(a))' -/
def shOps : Array Oper := #[
    { dst := some 8, op := Op.load 24 (Operand.tmp 1), type := 24, pos := "law.go:13", after := #[], guard := none },
    { dst := some 9, op := Op.load 24 (Operand.tmp 1), type := 24, pos := "law.go:13", after := #[], guard := none },
    { dst := some 10, op := Op.call { callee := Callee.value (Operand.func 29), args := #[Operand.tmp 9], argTypes := #[24] }, type := 24, pos := "law.go:13", after := #[{ on := 1, ground := Ground.data }], guard := none },
    { dst := some 11, op := Op.call { callee := Callee.value (Operand.func 16), args := #[Operand.tmp 8, Operand.tmp 10], argTypes := #[24, 24] }, type := 28, pos := "law.go:13", after := #[{ on := 0, ground := Ground.data }, { on := 2, ground := Ground.data }, { on := 2, ground := Ground.chain }], guard := none },
    { dst := some 7, op := Op.move (Operand.tmp 11), type := 28, pos := "law.go:13", after := #[{ on := 3, ground := Ground.data }], guard := none },
    { dst := some 12, op := Op.extract (Operand.tmp 7) 0, type := 24, pos := "law.go:13", after := #[{ on := 4, ground := Ground.data }], guard := none },
    { dst := some 13, op := Op.extract (Operand.tmp 7) 1, type := 4, pos := "law.go:13", after := #[{ on := 4, ground := Ground.data }, { on := 9, ground := Ground.gcOnly Departure.lateStores }], guard := none },
    { dst := some 14, op := Op.extract (Operand.tmp 7) 2, type := 27, pos := "law.go:13", after := #[{ on := 4, ground := Ground.data }, { on := 10, ground := Ground.gcOnly Departure.lateStores }], guard := none },
    { dst := some 2, op := Op.alloc 24, type := 0, pos := "law.go:13", after := #[], guard := none },
    { dst := none, op := Op.store 24 (Operand.tmp 2) (Operand.tmp 12), type := 0, pos := "law.go:13", after := #[{ on := 8, ground := Ground.data }, { on := 5, ground := Ground.data }, { on := 3, ground := Ground.chain }, { on := 0, ground := Ground.phase }, { on := 1, ground := Ground.phase }, { on := 2, ground := Ground.phase }, { on := 3, ground := Ground.phase }, { on := 4, ground := Ground.phase }, { on := 5, ground := Ground.phase }, { on := 6, ground := Ground.textOnly Departure.lateStores }, { on := 7, ground := Ground.textOnly Departure.lateStores }, { on := 8, ground := Ground.phase }], guard := none },
    { dst := some 3, op := Op.assign (Operand.tmp 13), type := 4, pos := "law.go:13", after := #[{ on := 6, ground := Ground.data }, { on := 9, ground := Ground.chain }, { on := 0, ground := Ground.phase }, { on := 1, ground := Ground.phase }, { on := 2, ground := Ground.phase }, { on := 3, ground := Ground.phase }, { on := 4, ground := Ground.phase }, { on := 5, ground := Ground.phase }, { on := 6, ground := Ground.phase }, { on := 7, ground := Ground.textOnly Departure.lateStores }, { on := 8, ground := Ground.phase }, { on := 9, ground := Ground.phase }], guard := none },
    { dst := some 4, op := Op.assign (Operand.tmp 14), type := 27, pos := "law.go:13", after := #[{ on := 7, ground := Ground.data }, { on := 10, ground := Ground.chain }, { on := 0, ground := Ground.phase }, { on := 1, ground := Ground.phase }, { on := 2, ground := Ground.phase }, { on := 3, ground := Ground.phase }, { on := 4, ground := Ground.phase }, { on := 5, ground := Ground.phase }, { on := 6, ground := Ground.phase }, { on := 7, ground := Ground.phase }, { on := 8, ground := Ground.phase }, { on := 9, ground := Ground.phase }, { on := 10, ground := Ground.phase }], guard := none }]
def shFr (w : World) (v2 v3 v4 v7 v8 v9 v10 v11 v12 v13 v14 : Value) : Act := ⟨#[.bool false, .pointer (some ⟨w.heap.size + 1, 0, none⟩), v2, v3, v4, .slice (some ⟨w.heap.size, 0, none⟩) 2 2, .agg #[.int .i64 1, .int .i64 2, .slice (some ⟨w.heap.size, 0, none⟩) 2 2], v7, v8, v9, v10, v11, v12, v13, v14, undef, undef, undef, undef, undef, undef, undef, undef, undef, undef, undef, undef, undef, undef, undef, undef, undef, undef, undef, undef, undef, undef, undef, undef, undef, undef, undef, undef, undef, undef, undef, undef, undef], []⟩
abbrev shA (w : World) : Value := .agg #[.int .i64 1, .int .i64 2, .slice (some ⟨w.heap.size, 0, none⟩) 2 2]
abbrev shT (sl : Value) : Value := .tuple #[.agg #[.int .i64 1, .int .i64 1, sl], .bool false, .int .i64 0]
def ShInv (w W : World) (L : Nat → Bool) (a : Act) (y : World) : Prop :=
  ∃ (v2 v3 v4 v7 v8 v9 v10 v11 v12 v13 v14 tl sl : Value) (D : Nat), a = shFr w v2 v3 v4 v7 v8 v9 v10 v11 v12 v13 v14 ∧ Below W.heap.size W y ∧ (L 0 = true → v8 = shA w) ∧ (L 1 = true → v9 = shA w) ∧
    (L 2 = true → L 9 = false → v10 = .agg #[.int .i64 2, .int .i64 1, tl] ∧ Sees y tl (trn 1 2 [16777216, 33554432])) ∧
    (L 3 = true → v11 = shT sl ∧ Sees y sl [83886080]) ∧ (L 4 = true → v7 = shT sl) ∧ (L 5 = true → v12 = .agg #[.int .i64 1, .int .i64 1, sl]) ∧ (L 6 = true → v13 = .bool false) ∧ (L 7 = true → v14 = .int .i64 0) ∧
    (L 8 = true → v2 = .pointer (some ⟨D, 0, none⟩) ∧ W.heap.size ≤ D ∧ ∃ p q r, y.heap[D]? = some (.cells #[p, q, r] 24 (0, 0))) ∧
    (L 9 = true → y.heap[D]? = some (.cells #[.int .i64 1, .int .i64 1, sl] 24 (0, 0))) ∧
    (L 3 = true → L 8 = true → ∀ k, sl.ownBlock = some k → k ≠ D) ∧ (L 10 = true → v3 = .bool false) ∧ (L 11 = true → v4 = .int .i64 0)

theorem sh_region {w W : World} {Q : Exit → Act → World → Prop} (x2 : W.heap[w.heap.size + 1]? = some (.cells #[.int .i64 1, .int .i64 2, .slice (some ⟨w.heap.size, 0, none⟩) 2 2] 24 (0, 0)))
    (hs : Sees W (.slice (some ⟨w.heap.size, 0, none⟩) 2 2) [16777216, 33554432])
    (hQ : ∀ (v7 v8 v9 v10 v11 v12 v13 v14 sl : Value) (D : Nat) (y : World), Below W.heap.size W y → y.heap[D]? = some (.cells #[.int .i64 1, .int .i64 1, sl] 24 (0, 0)) → Sees y sl [83886080] → Q .normal (shFr w (.pointer (some ⟨D, 0, none⟩)) (.bool false) (.int .i64 0) v7 v8 v9 v10 v11 v12 v13 v14) y) :
    (Code.region 2 shOps true).wp Try.prog Q (shFr w undef undef undef undef undef undef undef undef undef undef undef) W := by
  have p1 : pres shOps 1 = [] := by decide
  have p2 : pres shOps 2 = [1] := by decide
  have p3 : pres shOps 3 = [0, 2, 2] := by decide
  have p4 : pres shOps 4 = [3] := by decide
  have p5 : pres shOps 5 = [4] := by decide
  have p6 : pres shOps 6 = [4] := by decide
  have p7 : pres shOps 7 = [4] := by decide
  have p9 : pres shOps 9 = [8, 5, 3, 0, 1, 2, 3, 4, 5, 8] := by decide
  have p10 : pres shOps 10 = [6, 9, 0, 1, 2, 3, 4, 5, 6, 8, 9] := by decide
  have p11 : pres shOps 11 = [7, 10, 0, 1, 2, 3, 4, 5, 6, 7, 8, 9, 10] := by decide
  refine wp_region_L (by kernel_rfl) (by decide) (ShInv w W) ?_ ?_ ?_
  · refine ⟨undef, undef, undef, undef, undef, undef, undef, undef, undef, undef, undef, undef, undef, 0, rfl, (Below.refl _ _).drew, ?_, ?_, ?_, ?_, ?_, ?_, ?_, ?_, ?_, ?_, ?_, ?_, ?_⟩
    all_goals (intro h; cases h)
  · rintro L a y i hi ⟨v2, v3, v4, v7, v8, v9, v10, v11, v12, v13, v14, tl, sl, D, rfl, hb, k0, k1, k2, k3, k4, k5, k6, k7, k8, k9, kx, k10, k11⟩ hc hL hp
    have hi12 : i < 12 := hi
    have c4 : L 4 = true → L 3 = true := fun h => hc 4 (by decide) h 3 (by rw [p4]; decide)
    have c5 : L 5 = true → L 4 = true := fun h => hc 5 (by decide) h 4 (by rw [p5]; decide)
    have c9 : L 9 = true → L 2 = true ∧ L 3 = true ∧ L 8 = true ∧ L 5 = true ∧ L 4 = true := fun h => ⟨hc 9 (by decide) h 2 (by rw [p9]; decide), hc 9 (by decide) h 3 (by rw [p9]; decide), hc 9 (by decide) h 8 (by rw [p9]; decide), hc 9 (by decide) h 5 (by rw [p9]; decide), hc 9 (by decide) h 4 (by rw [p9]; decide)⟩
    have no : ∀ {b c : Bool}, (b = true → c = true) → c = false → ¬ b = true := fun h1 h2 h3 => by rw [h1 h3] at h2; cases h2
    rcases (by omega : i = 0 ∨ i = 1 ∨ i = 2 ∨ i = 3 ∨ i = 4 ∨ i = 5 ∨ i = 6 ∨ i = 7 ∨ i = 8 ∨ i = 9 ∨ i = 10 ∨ i = 11) with rfl | rfl | rfl | rfl | rfl | rfl | rfl | rfl | rfl | rfl | rfl | rfl
    · skip
      refine wpOp_of _ rfl rfl (op_load rfl (by rfl) (keep hb x2) ?_)
      exact ⟨v2, v3, v4, v7, _, v9, v10, v11, v12, v13, v14, tl, sl, D, rfl, hb, fun _ => rfl, k1, k2, k3, k4, k5, k6, k7, k8, k9, kx, k10, k11⟩
    · skip
      refine wpOp_of _ rfl rfl (op_load rfl (by rfl) (keep hb x2) ?_)
      exact ⟨v2, v3, v4, v7, v8, _, v10, v11, v12, v13, v14, tl, sl, D, rfl, hb, k0, fun _ => rfl, k2, k3, k4, k5, k6, k7, k8, k9, kx, k10, k11⟩
    · have h1 := k1 (hp 1 (by rw [p2]; decide))
      subst h1
      have hn9 : ¬ L 9 = true := no (fun h => (c9 h).1) hL
      refine wpOp_of _ rfl rfl (op_call1 enters29 rfl (by rfl) (trans_any 1 2 (by omega) (by omega) (by omega) (by omega) _ [16777216, 33554432] rfl y (hs.below hb)) ?_)
      rintro e y' ⟨v, rfl, s', n', b'⟩
      refine ⟨_, rfl, ?_⟩
      exact ⟨v2, v3, v4, v7, v8, _, _, v11, v12, v13, v14, v, sl, D, rfl, bt hb b', k0, fun _ => rfl, fun _ _ => ⟨rfl, s'⟩, fun h => ⟨(k3 h).1, (k3 h).2.below b'⟩, k4, k5, k6, k7, fun h => ⟨(k8 h).1, (k8 h).2.1, let ⟨p, q, r, e⟩ := (k8 h).2.2; ⟨p, q, r, keep b' e⟩⟩, fun h => absurd h hn9, kx, k10, k11⟩
    · have h0 := k0 (hp 0 (by rw [p3]; decide))
      subst h0
      have hn9 : ¬ L 9 = true := no (fun h => (c9 h).2.1) hL
      have hn4 : ¬ L 4 = true := no c4 hL
      have hn5 : ¬ L 5 = true := fun h => hn4 (c5 h)
      have h9 : L 9 = false := by cases e : L 9 with | false => rfl | true => exact absurd e hn9
      obtain ⟨h2, s2⟩ := k2 (hp 2 (by rw [p3]; decide)) h9
      subst h2
      refine wpOp_of _ rfl rfl (op_call2 enters16 rfl (by rfl) (by rfl) (mul_mat 1 2 1 (by omega) (by omega) (by omega) (by omega) (by omega) (by omega) _ _ [16777216, 33554432] (trn 1 2 [16777216, 33554432]) rfl rfl y (hs.below hb) s2) ?_)
      rintro e y' ⟨v, rfl, s', n', b'⟩
      rw [prd_shown] at s'
      rw [prdB_shown]
      refine ⟨_, rfl, ?_⟩
      exact ⟨v2, v3, v4, v7, _, v9, _, _, v12, v13, v14, tl, v, D, rfl, bt hb b', fun _ => rfl, k1, fun h g => ⟨rfl, s2.below b'⟩, fun _ => ⟨rfl, s'⟩, fun h => absurd h hn4, fun h => absurd h hn5, k6, k7, fun h => ⟨(k8 h).1, (k8 h).2.1, let ⟨p, q, r, e⟩ := (k8 h).2.2; ⟨p, q, r, keep b' e⟩⟩, fun h => absurd h hn9,
        fun _ h k hk => by obtain ⟨p, q, r, e⟩ := (k8 h).2.2; have h1 := lt_of_block e; have h2 := n' k hk; omega, k10, k11⟩
    · obtain ⟨h3, s3⟩ := k3 (hp 3 (by rw [p4]; decide))
      subst h3
      refine wpOp_of _ rfl rfl (op_move rfl (by rfl) ?_)
      exact ⟨v2, v3, v4, _, v8, v9, v10, _, v12, v13, v14, tl, sl, D, rfl, hb, k0, k1, k2, fun _ => ⟨rfl, s3⟩, fun _ => rfl, k5, k6, k7, k8, k9, kx, k10, k11⟩
    · have h4 := k4 (hp 4 (by rw [p5]; decide))
      subst h4
      refine wpOp_of _ rfl rfl (op_extract rfl (by rfl) (by rfl) ?_)
      exact ⟨v2, v3, v4, _, v8, v9, v10, v11, _, v13, v14, tl, sl, D, rfl, hb, k0, k1, k2, k3, fun _ => rfl, fun _ => rfl, k6, k7, k8, k9, kx, k10, k11⟩
    · have h4 := k4 (hp 4 (by rw [p6]; decide))
      subst h4
      refine wpOp_of _ rfl rfl (op_extract rfl (by rfl) (by rfl) ?_)
      exact ⟨v2, v3, v4, _, v8, v9, v10, v11, v12, _, v14, tl, sl, D, rfl, hb, k0, k1, k2, k3, fun _ => rfl, k5, fun _ => rfl, k7, k8, k9, kx, k10, k11⟩
    · have h4 := k4 (hp 4 (by rw [p7]; decide))
      subst h4
      refine wpOp_of _ rfl rfl (op_extract rfl (by rfl) (by rfl) ?_)
      exact ⟨v2, v3, v4, _, v8, v9, v10, v11, v12, v13, _, tl, sl, D, rfl, hb, k0, k1, k2, k3, fun _ => rfl, k5, k6, fun _ => rfl, k8, k9, kx, k10, k11⟩
    · have hn9 : ¬ L 9 = true := no (fun h => (c9 h).2.2.1) hL
      refine wpOp_of _ rfl rfl (op_alloc24 rfl ?_)
      exact ⟨_, v3, v4, v7, v8, v9, v10, v11, v12, v13, v14, tl, sl, y.heap.size, rfl, bt hb (box_below _ _), k0, k1, fun h g => ⟨(k2 h g).1, (k2 h g).2.alloc _⟩, fun h => ⟨(k3 h).1, (k3 h).2.alloc _⟩, k4, k5, k6, k7, fun _ => ⟨rfl, hb.size, _, _, _, heap_new y _⟩, fun h => absurd h hn9,
        fun h _ k hk => by have := (k3 h).2.lt (by decide) k hk; omega, k10, k11⟩
    · obtain ⟨h8, hDW, p, q, r, e8⟩ := k8 (hp 8 (by rw [p9]; decide))
      have h5 := k5 (hp 5 (by rw [p9]; decide))
      obtain ⟨h3, s3⟩ := k3 (hp 3 (by rw [p9]; decide))
      have hne := kx (hp 3 (by rw [p9]; decide)) (hp 8 (by rw [p9]; decide))
      subst h8
      subst h5
      obtain ⟨ao, cap, hsl⟩ := s3.slice
      subst hsl
      refine wpOp_of _ rfl rfl (op_store24 rfl rfl (by rfl) (by rfl) e8 ?_)
      exact ⟨_, v3, v4, v7, v8, v9, v10, v11, _, v13, v14, tl, _, D, rfl, below_put hb hDW _ _ _, k0, k1, fun _ g => absurd g (by simp), fun _ => ⟨h3, ((s3.set' (a := ⟨D, 0, none⟩) hne _).set' (a := ⟨D, 1, none⟩) hne _).set' (a := ⟨D, 2, none⟩) hne _⟩, k4, fun _ => rfl, k6, k7, fun _ => ⟨rfl, hDW, _, _, _, put_mat e8⟩, fun _ => put_mat e8, fun _ _ => hne, k10, k11⟩
    · have h6 := k6 (hp 6 (by rw [p10]; decide))
      subst h6
      refine wpOp_of _ rfl rfl (op_assign rfl (by rfl) ?_)
      exact ⟨v2, _, v4, v7, v8, v9, v10, v11, v12, _, v14, tl, sl, D, rfl, hb, k0, k1, k2, k3, k4, k5, fun _ => rfl, k7, k8, k9, kx, fun _ => rfl, k11⟩
    · have h7 := k7 (hp 7 (by rw [p11]; decide))
      subst h7
      refine wpOp_of _ rfl rfl (op_assign rfl (by rfl) ?_)
      exact ⟨v2, v3, _, v7, v8, v9, v10, v11, v12, v13, _, tl, sl, D, rfl, hb, k0, k1, k2, k3, k4, k5, k6, fun _ => rfl, k8, k9, kx, k10, fun _ => rfl⟩
  · rintro L a y ⟨v2, v3, v4, v7, v8, v9, v10, v11, v12, v13, v14, tl, sl, D, rfl, hb, k0, k1, k2, k3, k4, k5, k6, k7, k8, k9, kx, k10, k11⟩ hall
    have a3 := k3 (hall 3 (by decide))
    have a8 := (k8 (hall 8 (by decide))).1
    have a9 := k9 (hall 9 (by decide))
    have a10 := k10 (hall 10 (by decide))
    have a11 := k11 (hall 11 (by decide))
    subst a8 a10 a11
    exact hQ _ _ _ _ _ _ _ _ sl D y hb a9 a3.2

set_option maxRecDepth 20000 in
set_option maxHeartbeats 800000 in
theorem shown_any (w : World) : Calls Try.prog 10 #[] w fun e w' => e = .returned (.bool true) ∧ Below w.heap.size w w' := by
  go_enter Try.func10, Try.ntmps10
  go_upto_region 2 with fail
  obtain ⟨x1, x2⟩ := allocs2 w (.cells #[.int .i64 16777216, .int .i64 33554432] 33) (.cells #[.int .i64 1, .int .i64 2, .slice (some ⟨w.heap.size, 0, none⟩) 2 2] 24)
  have bq := ball2 w (.cells #[.int .i64 16777216, .int .i64 33554432] 33) (.cells #[.int .i64 1, .int .i64 2, .slice (some ⟨w.heap.size, 0, none⟩) 2 2] 24)
  obtain ⟨W, hW⟩ : ∃ W, (w.alloc (.cells #[.int .i64 16777216, .int .i64 33554432] 33)).alloc (.cells #[.int .i64 1, .int .i64 2, .slice (some ⟨w.heap.size, 0, none⟩) 2 2] 24) = W := ⟨_, rfl⟩
  rw [hW] at x1 x2 bq ⊢
  clear hW
  have hs : Sees W (.slice (some ⟨w.heap.size, 0, none⟩) 2 2) [16777216, 33554432] := by
    refine ⟨_, 2, rfl, fun k hk => ⟨_, rfl, lt_of_block x1, ?_⟩⟩
    have hk : k < 2 := hk
    rcases (by omega : k = 0 ∨ k = 1) with rfl | rfl
    · simp [Addr.add, World.cell?, x1, ge]
    · simp [Addr.add, World.cell?, x1, ge]
  refine sh_region x2 hs ?_
  intro v7 v8 v9 v10 v11 v12 v13 v14 sl D y hb hD s2
  have B2 := bt bq hb
  obtain ⟨ao, cap, rfl, hc⟩ := s2
  obtain ⟨ad, rfl, hlt, hc⟩ := hc 0 (by decide)
  have s2 : Sees y (.slice (some ad) 1 cap) [83886080] := ⟨_, cap, rfl, fun k hk => by
    have hk : k < 1 := hk
    have e : k = 0 := by omega
    subst e
    exact ⟨ad, rfl, hlt, hc⟩⟩
  have hc' : y.cell? ad = some (.int .i64 83886080) := hc
  obtain ⟨d0, d1, d2, _⟩ := mat_cells hD
  have hr : rightB 1 1 [83886080] = true := by decide
  clear hs x1 x2 bq hc
  unfold shFr
  go_wp2_with (go_at_call 24; refine (right_any _ _ _ _ _ (by decide) s2).mono ?_; rintro e w' ⟨rfl, bx⟩)
  go_ret
  exact ⟨rfl, bt B2 bx⟩
end Go.Proofs.Yteohdhmimpajmaa
