/-
  Texts joined, in the order in which they stand on one another: PreR UptR RPred.
-/
import Derived.Test.YtiniobcknmaigaaGreatG10
import Derived.Test.YtiniobcknmaigaaGreatG14
import Derived.Test.YtiniobcknmaigaaGreatG19
import Derived.Test.YtiniobcknmaigaaGreatG22
import Derived.Test.YtiniobcknmaigaaGreatG24
import Derived.Test.YtiniobcknmaigaaGreatG30
/-
  The last statement of the document's Predict, in whatever order: what it leaves.
-/
namespace Go.Proofs.YtiniobcknmaigaaGreat
open Go.RowKit Go.Sort Qm
set_option linter.unusedVariables false
theorem enters20 : ∀ (args : Array Value) (a : World), Sem.run Tryz.prog (callFunc 27 args) a = Result.ok (Next.enter 27 args) a := by
  intro args a
  simp [callFunc, Tryz.func27, go_sem]; rfl
def preOps : Array Oper := #[
    { dst := some 66, op := Op.load 24 (Operand.tmp 10), type := 24, pos := "ref.go:82", after := #[], guard := none },
    { dst := some 67, op := Op.load 24 (Operand.tmp 15), type := 24, pos := "ref.go:82", after := #[], guard := none },
    { dst := some 68, op := Op.call { callee := Callee.value (Operand.func 27), args := #[Operand.tmp 67], argTypes := #[24] }, type := 24, pos := "ref.go:82", after := #[{ on := 1, ground := Ground.data }], guard := none },
    { dst := some 69, op := Op.build 26 #[(0, Operand.tmp 66), (1, Operand.tmp 68)], type := 26, pos := "ref.go:82", after := #[{ on := 0, ground := Ground.data }, { on := 2, ground := Ground.data }], guard := none },
    { dst := some 70, op := Op.move (Operand.tmp 11), type := 4, pos := "ref.go:82", after := #[], guard := none },
    { dst := some 71, op := Op.move (Operand.tmp 70), type := 4, pos := "ref.go:82", after := #[{ on := 4, ground := Ground.data }, { on := 2, ground := Ground.chain }], guard := none },
    { dst := some 72, op := Op.move (Operand.tmp 14), type := 4, pos := "ref.go:82", after := #[{ on := 5, ground := Ground.guard }], guard := some (5, false) },
    { dst := some 73, op := Op.pick (Operand.tmp 71) (Operand.const (Value.bool true)) (Operand.tmp 72), type := 4, pos := "ref.go:82", after := #[{ on := 5, ground := Ground.data }, { on := 6, ground := Ground.data }], guard := none },
    { dst := some 74, op := Op.move (Operand.tmp 73), type := 4, pos := "ref.go:82", after := #[{ on := 7, ground := Ground.data }, { on := 5, ground := Ground.chain }], guard := none },
    { dst := some 75, op := Op.move (Operand.tmp 16), type := 4, pos := "ref.go:82", after := #[{ on := 8, ground := Ground.guard }, { on := 11, ground := Ground.gcOnly Departure.lateStores }], guard := some (8, false) },
    { dst := some 76, op := Op.pick (Operand.tmp 74) (Operand.const (Value.bool true)) (Operand.tmp 75), type := 4, pos := "ref.go:82", after := #[{ on := 8, ground := Ground.data }, { on := 9, ground := Ground.data }, { on := 11, ground := Ground.gcOnly Departure.lateStores }], guard := none },
    { dst := none, op := Op.store 26 (Operand.tmp 6) (Operand.tmp 69), type := 0, pos := "ref.go:82", after := #[{ on := 3, ground := Ground.data }, { on := 8, ground := Ground.chain }, { on := 0, ground := Ground.phase }, { on := 1, ground := Ground.phase }, { on := 2, ground := Ground.phase }, { on := 3, ground := Ground.phase }, { on := 4, ground := Ground.textOnly Departure.lateStores }, { on := 5, ground := Ground.textOnly Departure.lateStores }, { on := 6, ground := Ground.textOnly Departure.lateStores }, { on := 7, ground := Ground.textOnly Departure.lateStores }, { on := 8, ground := Ground.textOnly Departure.lateStores }, { on := 9, ground := Ground.textOnly Departure.lateStores }, { on := 10, ground := Ground.textOnly Departure.lateStores }], guard := none },
    { dst := some 7, op := Op.assign (Operand.tmp 76), type := 4, pos := "ref.go:82", after := #[{ on := 10, ground := Ground.data }, { on := 11, ground := Ground.chain }, { on := 0, ground := Ground.phase }, { on := 1, ground := Ground.phase }, { on := 2, ground := Ground.phase }, { on := 3, ground := Ground.phase }, { on := 4, ground := Ground.phase }, { on := 5, ground := Ground.phase }, { on := 6, ground := Ground.phase }, { on := 7, ground := Ground.phase }, { on := 8, ground := Ground.phase }, { on := 9, ground := Ground.phase }, { on := 10, ground := Ground.phase }, { on := 11, ground := Ground.phase }], guard := none },
    { dst := some 8, op := Op.assign (Operand.const (Value.int IntKind.i64 0)), type := 3, pos := "ref.go:82", after := #[{ on := 12, ground := Ground.chain }, { on := 0, ground := Ground.phase }, { on := 1, ground := Ground.phase }, { on := 2, ground := Ground.phase }, { on := 3, ground := Ground.phase }, { on := 4, ground := Ground.phase }, { on := 5, ground := Ground.phase }, { on := 6, ground := Ground.phase }, { on := 7, ground := Ground.phase }, { on := 8, ground := Ground.phase }, { on := 9, ground := Ground.phase }, { on := 10, ground := Ground.phase }, { on := 11, ground := Ground.phase }, { on := 12, ground := Ground.phase }], guard := none }]
def preDst (i : Nat) : Nat := [66, 67, 68, 69, 70, 71, 72, 73, 74, 75, 76, 1000, 7, 8].getD i 0
def preFr (D6 : Nat) (D10 : Nat) (D15 : Nat) (n : Nat) (xo : Option Addr) (xn : Nat) (xcap : Nat) (po : Option Addr) (pn : Nat) (pcap : Nat) (zs : List Int) (A : Bool) (B : Bool) (C : Bool) (u0 u1 u2 u3 u4 u5 u9 u12 u13 u17 u18 u19 u20 u21 u22 u23 u24 u25 u26 u27 u28 u29 u30 u31 u32 u33 u34 u35 u36 u37 u38 u39 u40 u41 u42 u43 u44 u45 u46 u47 u48 u49 u50 u51 u52 u53 u54 u55 u56 u57 u58 u59 u60 u61 u62 u63 u64 u65 : Value) (vs : Nat → Value) : Act := ⟨#[u0, u1, u2, u3, u4, u5, .pointer (some ⟨D6, 0, none⟩), vs 7, vs 8, u9, .pointer (some ⟨D10, 0, none⟩), .bool A, u12, u13, .bool B, .pointer (some ⟨D15, 0, none⟩), .bool C, u17, u18, u19, u20, u21, u22, u23, u24, u25, u26, u27, u28, u29, u30, u31, u32, u33, u34, u35, u36, u37, u38, u39, u40, u41, u42, u43, u44, u45, u46, u47, u48, u49, u50, u51, u52, u53, u54, u55, u56, u57, u58, u59, u60, u61, u62, u63, u64, u65, vs 66, vs 67, vs 68, vs 69, vs 70, vs 71, vs 72, vs 73, vs 74, vs 75, vs 76], []⟩
def preT (W : Nat) (D6 : Nat) (D10 : Nat) (D15 : Nat) (n : Nat) (xo : Option Addr) (xn : Nat) (xcap : Nat) (po : Option Addr) (pn : Nat) (pcap : Nat) (zs : List Int) (A : Bool) (B : Bool) (C : Bool) : Nat → Value → World → Prop
  | 2, v, w => ∃ sl, v = .agg #[.int .i64 n, .int .i64 n, sl] ∧ Sees w sl zs ∧ New W sl
  | 3, v, w => ∃ sl, v = .agg #[.int .i64 n, .int .i64 1, .slice xo xn xcap, .int .i64 n, .int .i64 n, sl] ∧ Sees w sl zs ∧ New W sl
  | 6, v, _ => A = false → v = .bool B
  | 9, v, _ => (A || B) = false → v = .bool C
  | i, v, _ => v = ([.agg #[.int .i64 n, .int .i64 1, .slice xo xn xcap], .agg #[.int .i64 n, .int .i64 n, .slice po pn pcap], undef, undef, .bool A, .bool A, undef, .bool (A || B), .bool (A || B), undef, .bool ((A || B) || C), undef, .bool ((A || B) || C), .int .i64 0] : List Value).getD i undef
theorem preT_mono (W : Nat) (D6 : Nat) (D10 : Nat) (D15 : Nat) (n : Nat) (xo : Option Addr) (xn : Nat) (xcap : Nat) (po : Option Addr) (pn : Nat) (pcap : Nat) (zs : List Int) (A : Bool) (B : Bool) (C : Bool) : ∀ i v w w', preT W D6 D10 D15 n xo xn xcap po pn pcap zs A B C i v w → Below w.heap.size w w' → preT W D6 D10 D15 n xo xn xcap po pn pcap zs A B C i v w' := by
  intro i v w w' h hb
  unfold preT at *
  split
  · obtain ⟨sl, h1, h2, h3⟩ := h; exact ⟨sl, h1, h2.below hb, h3⟩
  · obtain ⟨sl, h1, h2, h3⟩ := h; exact ⟨sl, h1, h2.below hb, h3⟩
  · exact h
  · exact h
  · simp_all
theorem preT_six (W : Nat) (D6 : Nat) (D10 : Nat) (D15 : Nat) (n : Nat) (xo : Option Addr) (xn : Nat) (xcap : Nat) (po : Option Addr) (pn : Nat) (pcap : Nat) (zs : List Int) (A : Bool) (B : Bool) (C : Bool) (D : Nat) (hD : D < W) (y0 y1 y2 y3 y4 y5 : Value) : ∀ i v w, preT W D6 D10 D15 n xo xn xcap po pn pcap zs A B C i v w → preT W D6 D10 D15 n xo xn xcap po pn pcap zs A B C i v ((((((w.setCell ⟨D, 0, none⟩ y0).setCell ⟨D, 1, none⟩ y1).setCell ⟨D, 2, none⟩ y2).setCell ⟨D, 3, none⟩ y3).setCell ⟨D, 4, none⟩ y4).setCell ⟨D, 5, none⟩ y5) := by
  intro i v w h
  unfold preT at *
  split
  · obtain ⟨sl, h1, h2, h3⟩ := h; exact ⟨sl, h1, h2.six (fun k hk => by have := h3 k hk; omega) _ _ _ _ _ _, h3⟩
  · obtain ⟨sl, h1, h2, h3⟩ := h; exact ⟨sl, h1, h2.six (fun k hk => by have := h3 k hk; omega) _ _ _ _ _ _, h3⟩
  · exact h
  · exact h
  · simp_all
set_option maxRecDepth 60000 in
set_option maxHeartbeats 4000000 in
theorem pre_region {Q : Exit → Act → World → Prop} {w0 : World} {B0 : Nat} {D6 : Nat} {D10 : Nat} {D15 : Nat} {n : Nat} {xo : Option Addr} {xn : Nat} {xcap : Nat} {po : Option Addr} {pn : Nat} {pcap : Nat} {zs : List Int} {A : Bool} {B : Bool} {C : Bool} {u0 u1 u2 u3 u4 u5 u9 u12 u13 u17 u18 u19 u20 u21 u22 u23 u24 u25 u26 u27 u28 u29 u30 u31 u32 u33 u34 u35 u36 u37 u38 u39 u40 u41 u42 u43 u44 u45 u46 u47 u48 u49 u50 u51 u52 u53 u54 u55 u56 u57 u58 u59 u60 u61 u62 u63 u64 u65 : Value} {x0 x1 x2 x3 x4 x5 : Value} (vs0 : Nat → Value) (hB : B0 ≤ D6) (hR : w0.heap[D6]? = some (.cells #[x0, x1, x2, x3, x4, x5] 26 (0, 0)))
    (cX : ∀ w, Below w0.heap.size w0 w → w.cell? ⟨D10, 0, none⟩ = some (.int .i64 n) ∧ w.cell? ⟨D10, 1, none⟩ = some (.int .i64 1) ∧ w.cell? ⟨D10, 2, none⟩ = some (.slice xo xn xcap))
    (cP : ∀ w, Below w0.heap.size w0 w → w.cell? ⟨D15, 0, none⟩ = some (.int .i64 n) ∧ w.cell? ⟨D15, 1, none⟩ = some (.int .i64 n) ∧ w.cell? ⟨D15, 2, none⟩ = some (.slice po pn pcap))
    (kG : ∀ w, Below w0.heap.size w0 w → Calls Tryz.prog 27 #[.agg #[.int .i64 n, .int .i64 n, .slice po pn pcap]] w fun e b => ∃ v, e = .returned (.agg #[.int .i64 n, .int .i64 n, v]) ∧ Sees b v zs ∧ New w.heap.size v ∧ Below w.heap.size w b)
    (hQ : ∀ vs sl w, Below B0 w0 w → vs 7 = .bool ((A || B) || C) → vs 8 = .int .i64 0 → w.heap[D6]? = some (.cells #[.int .i64 n, .int .i64 1, .slice xo xn xcap, .int .i64 n, .int .i64 n, sl] 26 (0, 0)) → Sees w sl zs → New w0.heap.size sl → (∀ v xs, Sees w0 v xs → (∀ k, v.ownBlock = some k → k ≠ D6) → Sees w v xs) → Q .normal (preFr D6 D10 D15 n xo xn xcap po pn pcap zs A B C u0 u1 u2 u3 u4 u5 u9 u12 u13 u17 u18 u19 u20 u21 u22 u23 u24 u25 u26 u27 u28 u29 u30 u31 u32 u33 u34 u35 u36 u37 u38 u39 u40 u41 u42 u43 u44 u45 u46 u47 u48 u49 u50 u51 u52 u53 u54 u55 u56 u57 u58 u59 u60 u61 u62 u63 u64 u65 vs) w) :
    (Code.region 7 preOps true).wp Tryz.prog Q (preFr D6 D10 D15 n xo xn xcap po pn pcap zs A B C u0 u1 u2 u3 u4 u5 u9 u12 u13 u17 u18 u19 u20 u21 u22 u23 u24 u25 u26 u27 u28 u29 u30 u31 u32 u33 u34 u35 u36 u37 u38 u39 u40 u41 u42 u43 u44 u45 u46 u47 u48 u49 u50 u51 u52 u53 u54 u55 u56 u57 u58 u59 u60 u61 u62 u63 u64 u65 vs0) w0 := by
  have hDW := lt_of_block hR
  refine wp_region_one (B := B0) (by omega) (by kernel_rfl) (by decide) preDst (by decide) (preFr D6 D10 D15 n xo xn xcap po pn pcap zs A B C u0 u1 u2 u3 u4 u5 u9 u12 u13 u17 u18 u19 u20 u21 u22 u23 u24 u25 u26 u27 u28 u29 u30 u31 u32 u33 u34 u35 u36 u37 u38 u39 u40 u41 u42 u43 u44 u45 u46 u47 u48 u49 u50 u51 u52 u53 u54 u55 u56 u57 u58 u59 u60 u61 u62 u63 u64 u65) (preT w0.heap.size D6 D10 D15 n xo xn xcap po pn pcap zs A B C) (preT_mono w0.heap.size D6 D10 D15 n xo xn xcap po pn pcap zs A B C) vs0 11 1000
    (fun _ w => ∃ sl, w.heap[D6]? = some (.cells #[.int .i64 n, .int .i64 1, .slice xo xn xcap, .int .i64 n, .int .i64 n, sl] 26 (0, 0)) ∧ Sees w sl zs ∧ New w0.heap.size sl ∧ (∀ v xs, Sees w0 v xs → (∀ k, v.ownBlock = some k → k ≠ D6) → Sees w v xs)) (fun _ w w' ⟨sl, h1, h2, h3, h4⟩ hb => ⟨sl, keep hb h1, h2.below hb, h3, fun v xs hs hn => (h4 v xs hs hn).below hb⟩) (by decide) (by decide) ?_ ?_ ?_
  · intro i hi his vs w hb0 hbs0 hp hu hv
    have hi' : i < 14 := hi
    rcases (by omega : i = 0 ∨ i = 1 ∨ i = 2 ∨ i = 3 ∨ i = 4 ∨ i = 5 ∨ i = 6 ∨ i = 7 ∨ i = 8 ∨ i = 9 ∨ i = 10 ∨ i = 11 ∨ i = 12 ∨ i = 13) with rfl | rfl | rfl | rfl | rfl | rfl | rfl | rfl | rfl | rfl | rfl | rfl | rfl | rfl
    · have hbs := hbs0 (by decide)
      exact wpOp_of _ rfl rfl (op_loadM rfl rfl (cX w hbs).1 (cX w hbs).2.1 (cX w hbs).2.2 ⟨_, rfl, rfl, Below.refl _ _⟩)
    · have hbs := hbs0 (by decide)
      exact wpOp_of _ rfl rfl (op_loadM rfl rfl (cP w hbs).1 (cP w hbs).2.1 (cP w hbs).2.2 ⟨_, rfl, rfl, Below.refl _ _⟩)
    · have hbs := hbs0 (by decide)
      have h1 : vs 67 = .agg #[.int .i64 n, .int .i64 n, .slice po pn pcap] := hp 1 (by decide) (by decide)
      exact wpOp_of _ rfl rfl (op_call1 enters20 rfl h1 (kG w hbs) (by rintro e b ⟨v, rfl, s', n', b'⟩; exact ⟨_, rfl, _, rfl, ⟨_, rfl, s', n'.mono hbs.size⟩, b'⟩))
    · have h0 : vs 66 = .agg #[.int .i64 n, .int .i64 1, .slice xo xn xcap] := hp 0 (by decide) (by decide)
      obtain ⟨sl, h2, s2, n2⟩ : ∃ sl, vs 68 = .agg #[.int .i64 n, .int .i64 n, sl] ∧ Sees w sl zs ∧ New w0.heap.size sl := hp 2 (by decide) (by decide)
      obtain ⟨so, scap, hsl⟩ := s2.slice
      subst hsl
      exact wpOp_of _ rfl rfl (op_buildT rfl h0 h2 ⟨_, rfl, ⟨_, rfl, s2, n2⟩, Below.refl _ _⟩)
    · exact wpOp_of _ rfl rfl (op_move rfl rfl ⟨_, rfl, rfl, Below.refl _ _⟩)
    · have h4 : vs 70 = .bool A := hp 4 (by decide) (by decide)
      exact wpOp_of _ rfl rfl (op_move rfl h4 ⟨_, rfl, rfl, Below.refl _ _⟩)
    · have h5 : vs 71 = .bool A := hp 5 (by decide) (by decide)
      rcases (Bool.eq_false_or_eq_true (A)).symm with hg | hg
      · exact wpOp_want _ rfl 5 false rfl 71 rfl (by show some (vs 71) = _; rw [h5, hg]) (op_move rfl rfl ⟨_, rfl, fun _ => rfl, Below.refl _ _⟩)
      · exact wpOp_skip _ rfl 5 false rfl 71 rfl (by show some (vs 71) = _; rw [h5, hg]; rfl) ⟨_, rfl, (fun h => by rw [hg] at h; cases h), Below.refl _ _⟩
    · have h5 : vs 71 = .bool A := hp 5 (by decide) (by decide)
      have h6 : A = false → vs 72 = .bool B := hp 6 (by decide) (by decide)
      exact wpOp_of _ rfl rfl (op_pick_or rfl h5 h6 ⟨_, rfl, rfl, Below.refl _ _⟩)
    · have h7 : vs 73 = .bool (A || B) := hp 7 (by decide) (by decide)
      exact wpOp_of _ rfl rfl (op_move rfl h7 ⟨_, rfl, rfl, Below.refl _ _⟩)
    · have h8 : vs 74 = .bool (A || B) := hp 8 (by decide) (by decide)
      rcases (Bool.eq_false_or_eq_true ((A || B))).symm with hg | hg
      · exact wpOp_want _ rfl 8 false rfl 74 rfl (by show some (vs 74) = _; rw [h8, hg]) (op_move rfl rfl ⟨_, rfl, fun _ => rfl, Below.refl _ _⟩)
      · exact wpOp_skip _ rfl 8 false rfl 74 rfl (by show some (vs 74) = _; rw [h8, hg]; rfl) ⟨_, rfl, (fun h => by rw [hg] at h; cases h), Below.refl _ _⟩
    · have h8 : vs 74 = .bool (A || B) := hp 8 (by decide) (by decide)
      have h9 : (A || B) = false → vs 75 = .bool C := hp 9 (by decide) (by decide)
      exact wpOp_of _ rfl rfl (op_pick_or rfl h8 h9 ⟨_, rfl, rfl, Below.refl _ _⟩)
    · exact absurd rfl his
    · have h10 : vs 76 = .bool ((A || B) || C) := hp 10 (by decide) (by decide)
      exact wpOp_of _ rfl rfl (op_assign rfl h10 ⟨_, rfl, rfl, Below.refl _ _⟩)
    · exact wpOp_of _ rfl rfl (op_const rfl ⟨_, rfl, rfl, Below.refl _ _⟩)
  · intro vs w hb hp
    obtain ⟨sl, hf, hs, hnw⟩ : ∃ sl, vs 69 = .agg #[.int .i64 n, .int .i64 1, .slice xo xn xcap, .int .i64 n, .int .i64 n, sl] ∧ Sees w sl zs ∧ New w0.heap.size sl := hp 3 (by decide)
    obtain ⟨so, scap, hsl⟩ := hs.slice
    subst hsl
    refine wpOp_of _ rfl rfl (op_storeT rfl rfl rfl hf (keep hb hR) ?_)
    refine ⟨undef, rfl, ⟨_, put_six (keep hb hR), hs.six (fun k hk => by have := hnw k hk; omega) _ _ _ _ _ _, hnw, fun v xs h0 hn => (h0.below hb).six hn _ _ _ _ _ _⟩, below_six (hb.mono (by omega)) hB _ _ _ _ _ _, fun j v _ _ ht => preT_six w0.heap.size D6 D10 D15 n xo xn xcap po pn pcap zs A B C D6 hDW _ _ _ _ _ _ j v w ht⟩
  · rintro vs w hb hT ⟨sl, h1, h2, h3, h4⟩
    exact hQ vs sl w hb (hT 12 (by decide) (by decide)) (hT 13 (by decide) (by decide)) h1 h2 h3 h4
end Go.Proofs.YtiniobcknmaigaaGreat

/-
  The last statement of the document's Update, in whatever order: what it leaves.
-/
namespace Go.Proofs.YtiniobcknmaigaaGreat
open Go.RowKit Go.Sort Qm
set_option linter.unusedVariables false
def uptOps : Array Oper := #[
    { dst := some 220, op := Op.load 24 (Operand.tmp 30), type := 24, pos := "ref.go:129", after := #[], guard := none },
    { dst := some 221, op := Op.load 24 (Operand.tmp 48), type := 24, pos := "ref.go:129", after := #[], guard := none },
    { dst := some 222, op := Op.call { callee := Callee.value (Operand.func 27), args := #[Operand.tmp 221], argTypes := #[24] }, type := 24, pos := "ref.go:129", after := #[{ on := 1, ground := Ground.data }], guard := none },
    { dst := some 223, op := Op.build 26 #[(0, Operand.tmp 220), (1, Operand.tmp 222)], type := 26, pos := "ref.go:129", after := #[{ on := 0, ground := Ground.data }, { on := 2, ground := Ground.data }], guard := none },
    { dst := some 224, op := Op.move (Operand.tmp 16), type := 4, pos := "ref.go:129", after := #[{ on := 6, ground := Ground.gcOnly Departure.lateStores }], guard := none },
    { dst := none, op := Op.store 26 (Operand.tmp 10) (Operand.tmp 223), type := 0, pos := "ref.go:129", after := #[{ on := 3, ground := Ground.data }, { on := 2, ground := Ground.chain }, { on := 0, ground := Ground.phase }, { on := 1, ground := Ground.phase }, { on := 2, ground := Ground.phase }, { on := 3, ground := Ground.phase }, { on := 4, ground := Ground.textOnly Departure.lateStores }], guard := none },
    { dst := some 11, op := Op.assign (Operand.const (Value.bool true)), type := 4, pos := "ref.go:129", after := #[{ on := 5, ground := Ground.chain }, { on := 0, ground := Ground.phase }, { on := 1, ground := Ground.phase }, { on := 2, ground := Ground.phase }, { on := 3, ground := Ground.phase }, { on := 4, ground := Ground.textOnly Departure.lateStores }, { on := 5, ground := Ground.phase }], guard := none },
    { dst := some 12, op := Op.assign (Operand.tmp 224), type := 4, pos := "ref.go:129", after := #[{ on := 4, ground := Ground.data }, { on := 6, ground := Ground.chain }, { on := 0, ground := Ground.phase }, { on := 1, ground := Ground.phase }, { on := 2, ground := Ground.phase }, { on := 3, ground := Ground.phase }, { on := 4, ground := Ground.phase }, { on := 5, ground := Ground.phase }, { on := 6, ground := Ground.phase }], guard := none },
    { dst := some 13, op := Op.assign (Operand.const (Value.int IntKind.i64 0)), type := 3, pos := "ref.go:129", after := #[{ on := 7, ground := Ground.chain }, { on := 0, ground := Ground.phase }, { on := 1, ground := Ground.phase }, { on := 2, ground := Ground.phase }, { on := 3, ground := Ground.phase }, { on := 4, ground := Ground.phase }, { on := 5, ground := Ground.phase }, { on := 6, ground := Ground.phase }, { on := 7, ground := Ground.phase }], guard := none }]
def uptDst (i : Nat) : Nat := [220, 221, 222, 223, 224, 1000, 11, 12, 13].getD i 0
def uptFr (D10 : Nat) (D30 : Nat) (D48 : Nat) (n : Nat) (xo : Option Addr) (xn : Nat) (xcap : Nat) (po : Option Addr) (pn : Nat) (pcap : Nat) (zs : List Int) (A : Bool) (u0 u1 u2 u3 u4 u5 u6 u7 u8 u9 u14 u15 u17 u18 u19 u20 u21 u22 u23 u24 u25 u26 u27 u28 u29 u31 u32 u33 u34 u35 u36 u37 u38 u39 u40 u41 u42 u43 u44 u45 u46 u47 u49 u50 u51 u52 u53 u54 u55 u56 u57 u58 u59 u60 u61 u62 u63 u64 u65 u66 u67 u68 u69 u70 u71 u72 u73 u74 u75 u76 u77 u78 u79 u80 u81 u82 u83 u84 u85 u86 u87 u88 u89 u90 u91 u92 u93 u94 u95 u96 u97 u98 u99 u100 u101 u102 u103 u104 u105 u106 u107 u108 u109 u110 u111 u112 u113 u114 u115 u116 u117 u118 u119 u120 u121 u122 u123 u124 u125 u126 u127 u128 u129 u130 u131 u132 u133 u134 u135 u136 u137 u138 u139 u140 u141 u142 u143 u144 u145 u146 u147 u148 u149 u150 u151 u152 u153 u154 u155 u156 u157 u158 u159 u160 u161 u162 u163 u164 u165 u166 u167 u168 u169 u170 u171 u172 u173 u174 u175 u176 u177 u178 u179 u180 u181 u182 u183 u184 u185 u186 u187 u188 u189 u190 u191 u192 u193 u194 u195 u196 u197 u198 u199 u200 u201 u202 u203 u204 u205 u206 u207 u208 u209 u210 u211 u212 u213 u214 u215 u216 u217 u218 u219 : Value) (vs : Nat → Value) : Act := ⟨#[u0, u1, u2, u3, u4, u5, u6, u7, u8, u9, .pointer (some ⟨D10, 0, none⟩), vs 11, vs 12, vs 13, u14, u15, .bool A, u17, u18, u19, u20, u21, u22, u23, u24, u25, u26, u27, u28, u29, .pointer (some ⟨D30, 0, none⟩), u31, u32, u33, u34, u35, u36, u37, u38, u39, u40, u41, u42, u43, u44, u45, u46, u47, .pointer (some ⟨D48, 0, none⟩), u49, u50, u51, u52, u53, u54, u55, u56, u57, u58, u59, u60, u61, u62, u63, u64, u65, u66, u67, u68, u69, u70, u71, u72, u73, u74, u75, u76, u77, u78, u79, u80, u81, u82, u83, u84, u85, u86, u87, u88, u89, u90, u91, u92, u93, u94, u95, u96, u97, u98, u99, u100, u101, u102, u103, u104, u105, u106, u107, u108, u109, u110, u111, u112, u113, u114, u115, u116, u117, u118, u119, u120, u121, u122, u123, u124, u125, u126, u127, u128, u129, u130, u131, u132, u133, u134, u135, u136, u137, u138, u139, u140, u141, u142, u143, u144, u145, u146, u147, u148, u149, u150, u151, u152, u153, u154, u155, u156, u157, u158, u159, u160, u161, u162, u163, u164, u165, u166, u167, u168, u169, u170, u171, u172, u173, u174, u175, u176, u177, u178, u179, u180, u181, u182, u183, u184, u185, u186, u187, u188, u189, u190, u191, u192, u193, u194, u195, u196, u197, u198, u199, u200, u201, u202, u203, u204, u205, u206, u207, u208, u209, u210, u211, u212, u213, u214, u215, u216, u217, u218, u219, vs 220, vs 221, vs 222, vs 223, vs 224], []⟩
def uptT (W : Nat) (D10 : Nat) (D30 : Nat) (D48 : Nat) (n : Nat) (xo : Option Addr) (xn : Nat) (xcap : Nat) (po : Option Addr) (pn : Nat) (pcap : Nat) (zs : List Int) (A : Bool) : Nat → Value → World → Prop
  | 2, v, w => ∃ sl, v = .agg #[.int .i64 n, .int .i64 n, sl] ∧ Sees w sl zs ∧ New W sl
  | 3, v, w => ∃ sl, v = .agg #[.int .i64 n, .int .i64 1, .slice xo xn xcap, .int .i64 n, .int .i64 n, sl] ∧ Sees w sl zs ∧ New W sl
  | i, v, _ => v = ([.agg #[.int .i64 n, .int .i64 1, .slice xo xn xcap], .agg #[.int .i64 n, .int .i64 n, .slice po pn pcap], undef, undef, .bool A, undef, .bool true, .bool A, .int .i64 0] : List Value).getD i undef
theorem uptT_mono (W : Nat) (D10 : Nat) (D30 : Nat) (D48 : Nat) (n : Nat) (xo : Option Addr) (xn : Nat) (xcap : Nat) (po : Option Addr) (pn : Nat) (pcap : Nat) (zs : List Int) (A : Bool) : ∀ i v w w', uptT W D10 D30 D48 n xo xn xcap po pn pcap zs A i v w → Below w.heap.size w w' → uptT W D10 D30 D48 n xo xn xcap po pn pcap zs A i v w' := by
  intro i v w w' h hb
  unfold uptT at *
  split
  · obtain ⟨sl, h1, h2, h3⟩ := h; exact ⟨sl, h1, h2.below hb, h3⟩
  · obtain ⟨sl, h1, h2, h3⟩ := h; exact ⟨sl, h1, h2.below hb, h3⟩
  · simp_all
theorem uptT_six (W : Nat) (D10 : Nat) (D30 : Nat) (D48 : Nat) (n : Nat) (xo : Option Addr) (xn : Nat) (xcap : Nat) (po : Option Addr) (pn : Nat) (pcap : Nat) (zs : List Int) (A : Bool) (D : Nat) (hD : D < W) (y0 y1 y2 y3 y4 y5 : Value) : ∀ i v w, uptT W D10 D30 D48 n xo xn xcap po pn pcap zs A i v w → uptT W D10 D30 D48 n xo xn xcap po pn pcap zs A i v ((((((w.setCell ⟨D, 0, none⟩ y0).setCell ⟨D, 1, none⟩ y1).setCell ⟨D, 2, none⟩ y2).setCell ⟨D, 3, none⟩ y3).setCell ⟨D, 4, none⟩ y4).setCell ⟨D, 5, none⟩ y5) := by
  intro i v w h
  unfold uptT at *
  split
  · obtain ⟨sl, h1, h2, h3⟩ := h; exact ⟨sl, h1, h2.six (fun k hk => by have := h3 k hk; omega) _ _ _ _ _ _, h3⟩
  · obtain ⟨sl, h1, h2, h3⟩ := h; exact ⟨sl, h1, h2.six (fun k hk => by have := h3 k hk; omega) _ _ _ _ _ _, h3⟩
  · simp_all
set_option maxRecDepth 60000 in
set_option maxHeartbeats 4000000 in
theorem upt_region {Q : Exit → Act → World → Prop} {w0 : World} {B0 : Nat} {D10 : Nat} {D30 : Nat} {D48 : Nat} {n : Nat} {xo : Option Addr} {xn : Nat} {xcap : Nat} {po : Option Addr} {pn : Nat} {pcap : Nat} {zs : List Int} {A : Bool} {u0 u1 u2 u3 u4 u5 u6 u7 u8 u9 u14 u15 u17 u18 u19 u20 u21 u22 u23 u24 u25 u26 u27 u28 u29 u31 u32 u33 u34 u35 u36 u37 u38 u39 u40 u41 u42 u43 u44 u45 u46 u47 u49 u50 u51 u52 u53 u54 u55 u56 u57 u58 u59 u60 u61 u62 u63 u64 u65 u66 u67 u68 u69 u70 u71 u72 u73 u74 u75 u76 u77 u78 u79 u80 u81 u82 u83 u84 u85 u86 u87 u88 u89 u90 u91 u92 u93 u94 u95 u96 u97 u98 u99 u100 u101 u102 u103 u104 u105 u106 u107 u108 u109 u110 u111 u112 u113 u114 u115 u116 u117 u118 u119 u120 u121 u122 u123 u124 u125 u126 u127 u128 u129 u130 u131 u132 u133 u134 u135 u136 u137 u138 u139 u140 u141 u142 u143 u144 u145 u146 u147 u148 u149 u150 u151 u152 u153 u154 u155 u156 u157 u158 u159 u160 u161 u162 u163 u164 u165 u166 u167 u168 u169 u170 u171 u172 u173 u174 u175 u176 u177 u178 u179 u180 u181 u182 u183 u184 u185 u186 u187 u188 u189 u190 u191 u192 u193 u194 u195 u196 u197 u198 u199 u200 u201 u202 u203 u204 u205 u206 u207 u208 u209 u210 u211 u212 u213 u214 u215 u216 u217 u218 u219 : Value} {x0 x1 x2 x3 x4 x5 : Value} (vs0 : Nat → Value) (hB : B0 ≤ D10) (hR : w0.heap[D10]? = some (.cells #[x0, x1, x2, x3, x4, x5] 26 (0, 0)))
    (cX : ∀ w, Below w0.heap.size w0 w → w.cell? ⟨D30, 0, none⟩ = some (.int .i64 n) ∧ w.cell? ⟨D30, 1, none⟩ = some (.int .i64 1) ∧ w.cell? ⟨D30, 2, none⟩ = some (.slice xo xn xcap))
    (cP : ∀ w, Below w0.heap.size w0 w → w.cell? ⟨D48, 0, none⟩ = some (.int .i64 n) ∧ w.cell? ⟨D48, 1, none⟩ = some (.int .i64 n) ∧ w.cell? ⟨D48, 2, none⟩ = some (.slice po pn pcap))
    (kG : ∀ w, Below w0.heap.size w0 w → Calls Tryz.prog 27 #[.agg #[.int .i64 n, .int .i64 n, .slice po pn pcap]] w fun e b => ∃ v, e = .returned (.agg #[.int .i64 n, .int .i64 n, v]) ∧ Sees b v zs ∧ New w.heap.size v ∧ Below w.heap.size w b)
    (hQ : ∀ vs sl w, Below B0 w0 w → vs 11 = .bool true → vs 12 = .bool A → vs 13 = .int .i64 0 → w.heap[D10]? = some (.cells #[.int .i64 n, .int .i64 1, .slice xo xn xcap, .int .i64 n, .int .i64 n, sl] 26 (0, 0)) → Sees w sl zs → New w0.heap.size sl → (∀ v xs, Sees w0 v xs → (∀ k, v.ownBlock = some k → k ≠ D10) → Sees w v xs) → Q .normal (uptFr D10 D30 D48 n xo xn xcap po pn pcap zs A u0 u1 u2 u3 u4 u5 u6 u7 u8 u9 u14 u15 u17 u18 u19 u20 u21 u22 u23 u24 u25 u26 u27 u28 u29 u31 u32 u33 u34 u35 u36 u37 u38 u39 u40 u41 u42 u43 u44 u45 u46 u47 u49 u50 u51 u52 u53 u54 u55 u56 u57 u58 u59 u60 u61 u62 u63 u64 u65 u66 u67 u68 u69 u70 u71 u72 u73 u74 u75 u76 u77 u78 u79 u80 u81 u82 u83 u84 u85 u86 u87 u88 u89 u90 u91 u92 u93 u94 u95 u96 u97 u98 u99 u100 u101 u102 u103 u104 u105 u106 u107 u108 u109 u110 u111 u112 u113 u114 u115 u116 u117 u118 u119 u120 u121 u122 u123 u124 u125 u126 u127 u128 u129 u130 u131 u132 u133 u134 u135 u136 u137 u138 u139 u140 u141 u142 u143 u144 u145 u146 u147 u148 u149 u150 u151 u152 u153 u154 u155 u156 u157 u158 u159 u160 u161 u162 u163 u164 u165 u166 u167 u168 u169 u170 u171 u172 u173 u174 u175 u176 u177 u178 u179 u180 u181 u182 u183 u184 u185 u186 u187 u188 u189 u190 u191 u192 u193 u194 u195 u196 u197 u198 u199 u200 u201 u202 u203 u204 u205 u206 u207 u208 u209 u210 u211 u212 u213 u214 u215 u216 u217 u218 u219 vs) w) :
    (Code.region 27 uptOps true).wp Tryz.prog Q (uptFr D10 D30 D48 n xo xn xcap po pn pcap zs A u0 u1 u2 u3 u4 u5 u6 u7 u8 u9 u14 u15 u17 u18 u19 u20 u21 u22 u23 u24 u25 u26 u27 u28 u29 u31 u32 u33 u34 u35 u36 u37 u38 u39 u40 u41 u42 u43 u44 u45 u46 u47 u49 u50 u51 u52 u53 u54 u55 u56 u57 u58 u59 u60 u61 u62 u63 u64 u65 u66 u67 u68 u69 u70 u71 u72 u73 u74 u75 u76 u77 u78 u79 u80 u81 u82 u83 u84 u85 u86 u87 u88 u89 u90 u91 u92 u93 u94 u95 u96 u97 u98 u99 u100 u101 u102 u103 u104 u105 u106 u107 u108 u109 u110 u111 u112 u113 u114 u115 u116 u117 u118 u119 u120 u121 u122 u123 u124 u125 u126 u127 u128 u129 u130 u131 u132 u133 u134 u135 u136 u137 u138 u139 u140 u141 u142 u143 u144 u145 u146 u147 u148 u149 u150 u151 u152 u153 u154 u155 u156 u157 u158 u159 u160 u161 u162 u163 u164 u165 u166 u167 u168 u169 u170 u171 u172 u173 u174 u175 u176 u177 u178 u179 u180 u181 u182 u183 u184 u185 u186 u187 u188 u189 u190 u191 u192 u193 u194 u195 u196 u197 u198 u199 u200 u201 u202 u203 u204 u205 u206 u207 u208 u209 u210 u211 u212 u213 u214 u215 u216 u217 u218 u219 vs0) w0 := by
  have hDW := lt_of_block hR
  refine wp_region_one (B := B0) (by omega) (by kernel_rfl) (by decide) uptDst (by decide) (uptFr D10 D30 D48 n xo xn xcap po pn pcap zs A u0 u1 u2 u3 u4 u5 u6 u7 u8 u9 u14 u15 u17 u18 u19 u20 u21 u22 u23 u24 u25 u26 u27 u28 u29 u31 u32 u33 u34 u35 u36 u37 u38 u39 u40 u41 u42 u43 u44 u45 u46 u47 u49 u50 u51 u52 u53 u54 u55 u56 u57 u58 u59 u60 u61 u62 u63 u64 u65 u66 u67 u68 u69 u70 u71 u72 u73 u74 u75 u76 u77 u78 u79 u80 u81 u82 u83 u84 u85 u86 u87 u88 u89 u90 u91 u92 u93 u94 u95 u96 u97 u98 u99 u100 u101 u102 u103 u104 u105 u106 u107 u108 u109 u110 u111 u112 u113 u114 u115 u116 u117 u118 u119 u120 u121 u122 u123 u124 u125 u126 u127 u128 u129 u130 u131 u132 u133 u134 u135 u136 u137 u138 u139 u140 u141 u142 u143 u144 u145 u146 u147 u148 u149 u150 u151 u152 u153 u154 u155 u156 u157 u158 u159 u160 u161 u162 u163 u164 u165 u166 u167 u168 u169 u170 u171 u172 u173 u174 u175 u176 u177 u178 u179 u180 u181 u182 u183 u184 u185 u186 u187 u188 u189 u190 u191 u192 u193 u194 u195 u196 u197 u198 u199 u200 u201 u202 u203 u204 u205 u206 u207 u208 u209 u210 u211 u212 u213 u214 u215 u216 u217 u218 u219) (uptT w0.heap.size D10 D30 D48 n xo xn xcap po pn pcap zs A) (uptT_mono w0.heap.size D10 D30 D48 n xo xn xcap po pn pcap zs A) vs0 5 1000
    (fun _ w => ∃ sl, w.heap[D10]? = some (.cells #[.int .i64 n, .int .i64 1, .slice xo xn xcap, .int .i64 n, .int .i64 n, sl] 26 (0, 0)) ∧ Sees w sl zs ∧ New w0.heap.size sl ∧ (∀ v xs, Sees w0 v xs → (∀ k, v.ownBlock = some k → k ≠ D10) → Sees w v xs)) (fun _ w w' ⟨sl, h1, h2, h3, h4⟩ hb => ⟨sl, keep hb h1, h2.below hb, h3, fun v xs hs hn => (h4 v xs hs hn).below hb⟩) (by decide) (by decide) ?_ ?_ ?_
  · intro i hi his vs w hb0 hbs0 hp hu hv
    have hi' : i < 9 := hi
    rcases (by omega : i = 0 ∨ i = 1 ∨ i = 2 ∨ i = 3 ∨ i = 4 ∨ i = 5 ∨ i = 6 ∨ i = 7 ∨ i = 8) with rfl | rfl | rfl | rfl | rfl | rfl | rfl | rfl | rfl
    · have hbs := hbs0 (by decide)
      exact wpOp_of _ rfl rfl (op_loadM rfl rfl (cX w hbs).1 (cX w hbs).2.1 (cX w hbs).2.2 ⟨_, rfl, rfl, Below.refl _ _⟩)
    · have hbs := hbs0 (by decide)
      exact wpOp_of _ rfl rfl (op_loadM rfl rfl (cP w hbs).1 (cP w hbs).2.1 (cP w hbs).2.2 ⟨_, rfl, rfl, Below.refl _ _⟩)
    · have hbs := hbs0 (by decide)
      have h1 : vs 221 = .agg #[.int .i64 n, .int .i64 n, .slice po pn pcap] := hp 1 (by decide) (by decide)
      exact wpOp_of _ rfl rfl (op_call1 enters20 rfl h1 (kG w hbs) (by rintro e b ⟨v, rfl, s', n', b'⟩; exact ⟨_, rfl, _, rfl, ⟨_, rfl, s', n'.mono hbs.size⟩, b'⟩))
    · have h0 : vs 220 = .agg #[.int .i64 n, .int .i64 1, .slice xo xn xcap] := hp 0 (by decide) (by decide)
      obtain ⟨sl, h2, s2, n2⟩ : ∃ sl, vs 222 = .agg #[.int .i64 n, .int .i64 n, sl] ∧ Sees w sl zs ∧ New w0.heap.size sl := hp 2 (by decide) (by decide)
      obtain ⟨so, scap, hsl⟩ := s2.slice
      subst hsl
      exact wpOp_of _ rfl rfl (op_buildT rfl h0 h2 ⟨_, rfl, ⟨_, rfl, s2, n2⟩, Below.refl _ _⟩)
    · exact wpOp_of _ rfl rfl (op_move rfl rfl ⟨_, rfl, rfl, Below.refl _ _⟩)
    · exact absurd rfl his
    · exact wpOp_of _ rfl rfl (op_const rfl ⟨_, rfl, rfl, Below.refl _ _⟩)
    · have h4 : vs 224 = .bool A := hp 4 (by decide) (by decide)
      exact wpOp_of _ rfl rfl (op_assign rfl h4 ⟨_, rfl, rfl, Below.refl _ _⟩)
    · exact wpOp_of _ rfl rfl (op_const rfl ⟨_, rfl, rfl, Below.refl _ _⟩)
  · intro vs w hb hp
    obtain ⟨sl, hf, hs, hnw⟩ : ∃ sl, vs 223 = .agg #[.int .i64 n, .int .i64 1, .slice xo xn xcap, .int .i64 n, .int .i64 n, sl] ∧ Sees w sl zs ∧ New w0.heap.size sl := hp 3 (by decide)
    obtain ⟨so, scap, hsl⟩ := hs.slice
    subst hsl
    refine wpOp_of _ rfl rfl (op_storeT rfl rfl rfl hf (keep hb hR) ?_)
    refine ⟨undef, rfl, ⟨_, put_six (keep hb hR), hs.six (fun k hk => by have := hnw k hk; omega) _ _ _ _ _ _, hnw, fun v xs h0 hn => (h0.below hb).six hn _ _ _ _ _ _⟩, below_six (hb.mono (by omega)) hB _ _ _ _ _ _, fun j v _ _ ht => uptT_six w0.heap.size D10 D30 D48 n xo xn xcap po pn pcap zs A D10 hDW _ _ _ _ _ _ j v w ht⟩
  · rintro vs w hb hT ⟨sl, h1, h2, h3, h4⟩
    exact hQ vs sl w hb (hT 6 (by decide) (by decide)) (hT 7 (by decide) (by decide)) (hT 8 (by decide) (by decide)) h1 h2 h3 h4
end Go.Proofs.YtiniobcknmaigaaGreat

/-
  The contract of the document's Predict.
-/
namespace Go.Proofs.YtiniobcknmaigaaGreat
open Go.RowKit Go.Sort Qm


set_option maxRecDepth 20000 in
set_option maxHeartbeats 1600000 in
theorem rpredict_any (n : Nat) (n1 : 1 ≤ n) (hn : n ≤ 8) (vx vp vf vq : Value) (xs ps fs qs : List Int) (hx : xs.length = n * 1) (hp : ps.length = n * n) (hf : fs.length = n * n) (hq : qs.length = n * n) (w : World) (sx : Sees w vx xs) (sp : Sees w vp ps) (sf : Sees w vf fs) (sq : Sees w vq qs) :
    Calls Tryz.prog 8 #[.agg #[.int .i64 n, .int .i64 1, vx, .int .i64 n, .int .i64 n, vp], .agg #[.int .i64 n, .int .i64 n, vf], .agg #[.int .i64 n, .int .i64 n, vq]] w fun e b =>
      ∃ v v', e = .returned (.tuple #[.agg #[.int .i64 n, .int .i64 1, v, .int .i64 n, .int .i64 n, v'], .bool (prF n xs ps fs qs), .int .i64 0]) ∧ Sees b v (prX n xs fs) ∧ Sees b v' (prP n ps fs qs) ∧ New w.heap.size v ∧ New w.heap.size v' ∧ Below w.heap.size w b := by
  obtain ⟨xo, xcap, rfl⟩ := sx.slice
  obtain ⟨po, pcap, rfl⟩ := sp.slice
  obtain ⟨fo, fcap, rfl⟩ := sf.slice
  obtain ⟨qo, qcap, rfl⟩ := sq.slice
  obtain ⟨W, hW⟩ : ∃ W, (((w.alloc (.cells #[.int .i64 n, .int .i64 1, .slice xo xs.length xcap, .int .i64 n, .int .i64 n, .slice po ps.length pcap] 26)).alloc (.cells #[.int .i64 n, .int .i64 n, .slice fo fs.length fcap] 24)).alloc (.cells #[.int .i64 n, .int .i64 n, .slice qo qs.length qcap] 24)).alloc (.cells #[.int .i64 0, .int .i64 0, .slice none 0 0, .int .i64 0, .int .i64 0, .slice none 0 0] 26) = W := ⟨_, rfl⟩
  obtain ⟨x1, x2, x3, x4⟩ := allocs4 w (.cells #[.int .i64 n, .int .i64 1, .slice xo xs.length xcap, .int .i64 n, .int .i64 n, .slice po ps.length pcap] 26) (.cells #[.int .i64 n, .int .i64 n, .slice fo fs.length fcap] 24) (.cells #[.int .i64 n, .int .i64 n, .slice qo qs.length qcap] 24) (.cells #[.int .i64 0, .int .i64 0, .slice none 0 0, .int .i64 0, .int .i64 0, .slice none 0 0] 26)
  have bW := ball4 w (.cells #[.int .i64 n, .int .i64 1, .slice xo xs.length xcap, .int .i64 n, .int .i64 n, .slice po ps.length pcap] 26) (.cells #[.int .i64 n, .int .i64 n, .slice fo fs.length fcap] 24) (.cells #[.int .i64 n, .int .i64 n, .slice qo qs.length qcap] 24) (.cells #[.int .i64 0, .int .i64 0, .slice none 0 0, .int .i64 0, .int .i64 0, .slice none 0 0] 26)
  rw [hW] at x1 x2 x3 x4 bW
  have k1 : Calls Tryz.prog 24 #[.agg #[.int .i64 n, .int .i64 n, .slice fo fs.length fcap], .agg #[.int .i64 n, .int .i64 1, .slice xo xs.length xcap]] W fun e b =>
      ∃ v, e = .returned (.tuple #[.agg #[.int .i64 n, .int .i64 1, v], .bool (prdB n n 1 fs xs), .int .i64 0]) ∧ Sees b v (prX n xs fs) ∧ New W.heap.size v ∧ Below W.heap.size W b := rmul_mat n n 1 n1 hn n1 hn (by omega) (by omega) _ _ fs xs hf hx W (sf.below bW) (sx.below bW)
  have k2 : ∀ v, Below W.heap.size W v → Calls Tryz.prog 25 #[.agg #[.int .i64 n, .int .i64 n, .slice fo fs.length fcap], .agg #[.int .i64 n, .int .i64 n, .slice po ps.length pcap]] v fun e b =>
      ∃ v', e = .returned (.tuple #[.agg #[.int .i64 n, .int .i64 n, v'], .bool (midB n n fs ps)]) ∧ Sees b v' (midL n n fs ps) ∧ New v.heap.size v' ∧ Below v.heap.size v b := fun v hv => rmid_any n n n1 hn n1 hn _ _ fs ps hf hp v ((sf.below bW).below hv) ((sp.below bW).below hv)
  have k3 : ∀ v, Below W.heap.size W v → ∀ s, Sees v s (midL n n fs ps) → Calls Tryz.prog 26 #[.agg #[.int .i64 n, .int .i64 n, s], .agg #[.int .i64 n, .int .i64 n, .slice qo qs.length qcap]] v fun e b =>
      ∃ v', e = .returned (.tuple #[.agg #[.int .i64 n, .int .i64 n, v'], .bool (paiB addB (midL n n fs ps) qs), .int .i64 0]) ∧ Sees b v' (prS n ps fs qs) ∧ New v.heap.size v' ∧ Below v.heap.size v b := fun v hv s hs => radd_mat n n n1 hn n1 hn _ _ (midL n n fs ps) qs (midL_len _ _ _ _) hq v hs ((sq.below bW).below hv)
  have kG : ∀ v s, Sees v s (prS n ps fs qs) → Calls Tryz.prog 27 #[.agg #[.int .i64 n, .int .i64 n, s]] v fun e b => ∃ v', e = .returned (.agg #[.int .i64 n, .int .i64 n, v']) ∧ Sees b v' (prP n ps fs qs) ∧ New v.heap.size v' ∧ Below v.heap.size v b :=
    fun v s hs => rgood_any n n1 hn s (prS n ps fs qs) (by unfold prS; rw [pai_len, midL_len]) (pai_add_in _ _) v hs
  have lx : 0 < (prX n xs fs).length := by unfold prX; rw [prd_len]; omega
  unfold prF
  obtain ⟨X, hX⟩ : ∃ X, prX n xs fs = X := ⟨_, rfl⟩
  obtain ⟨M, hM⟩ : ∃ M, midL n n fs ps = M := ⟨_, rfl⟩
  obtain ⟨S, hS⟩ : ∃ S, prS n ps fs qs = S := ⟨_, rfl⟩
  obtain ⟨G, hG⟩ : ∃ G, prP n ps fs qs = G := ⟨_, rfl⟩
  obtain ⟨A, hA⟩ : ∃ A, prdB n n 1 fs xs = A := ⟨_, rfl⟩
  obtain ⟨B, hB⟩ : ∃ B, midB n n fs ps = B := ⟨_, rfl⟩
  rw [hX, hA] at k1
  simp only [hM, hB] at k2
  simp only [hM, hS] at k3
  simp only [hS, hG] at kG
  rw [hX] at lx
  rw [hX, hG, hA, hB, hM]
  obtain ⟨C, hC⟩ : ∃ C, paiB addB M qs = C := ⟨_, rfl⟩
  simp only [hC] at k3
  rw [hC]
  have LX : Hid (0 < X.length) := lx
  rw [← hW] at k1
  have HW : Hid (_ = W) := hW
  clear hW hX hM hS hG hA hB hC hx hp hf hq lx
  obtain ⟨c0, c1, c2, c3, c4, c5⟩ := six_cells x1
  obtain ⟨p0, p1, p2, _⟩ := mat_cells x2
  obtain ⟨q0, q1, q2, _⟩ := mat_cells x3
  go_enter Tryz.func8, Tryz.ntmps8
  go_wp2_with (first
    | (go_at_call 24; refine k1.mono ?_; rintro e wa ⟨v1, rfl, s1, m1, b1⟩; rw [HW.out] at b1 m1; obtain ⟨ao, ac, rfl⟩ := s1.slice; have e1 := heap_new wa (.cells #[.int .i64 n, .int .i64 1, .slice ao X.length ac] 24); have kb1 := bt b1 (box_below wa (.cells #[.int .i64 n, .int .i64 1, .slice ao X.length ac] 24)); have t1 := s1.alloc (.cells #[.int .i64 n, .int .i64 1, .slice ao X.length ac] 24); obtain ⟨d0, d1, d2, d3, d4, d5⟩ := six_cells (keep kb1 x1); obtain ⟨g0, g1, g2, _⟩ := mat_cells (keep kb1 x2))
    | (go_at_call 25; refine (k2 _ kb1).mono ?_; rintro e wb ⟨v2, rfl, s2, _, b2⟩; obtain ⟨bo, bc, rfl⟩ := s2.slice; have e2 := heap_new wb (.cells #[.int .i64 n, .int .i64 n, .slice bo M.length bc] 24); have b2' := bt b2 (box_below wb (.cells #[.int .i64 n, .int .i64 n, .slice bo M.length bc] 24)); have kb2 := bt kb1 b2'; have t2 := s2.alloc (.cells #[.int .i64 n, .int .i64 n, .slice bo M.length bc] 24); obtain ⟨h0, h1, h2, _⟩ := mat_cells (keep kb2 x3); obtain ⟨j0, j1, j2, _⟩ := mat_cells e2)
    | (go_at_call 26; refine (k3 _ kb2 _ t2).mono ?_; rintro e wc ⟨v3, rfl, s3, _, b3⟩; obtain ⟨co, cc, rfl⟩ := s3.slice))
  have e3 := heap_new wc (.cells #[.int .i64 n, .int .i64 n, .slice co S.length cc] 24)
  have b3' := bt b3 (box_below wc (.cells #[.int .i64 n, .int .i64 n, .slice co S.length cc] 24))
  have kb3 := bt kb2 b3'
  have t3 := s3.alloc (.cells #[.int .i64 n, .int .i64 n, .slice co S.length cc] 24)
  have e1' := keep (bt b2' b3') e1
  have t1' := t1.below (bt b2' b3')
  refine pre_region (B0 := w.heap.size) (D6 := w.heap.size + 1 + 1 + 1) (D10 := wa.heap.size) (D15 := wc.heap.size) (n := n) (xo := ao) (xn := X.length) (xcap := ac) (zs := G) (A := A) (B := B) (C := C) (fun k => if k = 7 then .bool false else if k = 8 then .int .i64 0 else undef) (by omega) (keep kb3 x4) (fun v hv => ?_) (fun v hv => ?_) (fun v hv => kG v _ (t3.below hv)) ?_
  · obtain ⟨c0, c1, c2, _⟩ := mat_cells (keep hv e1'); exact ⟨c0, c1, c2⟩
  · obtain ⟨c0, c1, c2, _⟩ := mat_cells (keep hv e3); exact ⟨c0, c1, c2⟩
  intro vs sl wd bd e7 e8 gD sD nD kD
  unfold preFr
  rw [e7, e8]
  have sX := kD _ _ t1' (fun k hk => by have := m1 k hk; have := lt_of_block x4; omega)
  obtain ⟨so, scap, rfl⟩ := sD.slice
  obtain ⟨f0, f1, f2, f3, f4, f5⟩ := six_cells gD
  go_wp2
  refine bodyPost_ret (v := .tuple #[.agg #[.int .i64 n, .int .i64 1, .slice ao X.length ac, .int .i64 n, .int .i64 n, .slice so G.length scap], .bool _, .int .i64 0]) (by simp [results, Tryz.results8, go_sem, f0, f1, f2, f3, f4, f5]; rfl) rfl ?_
  exact ⟨_, _, rfl, sX, sD, m1.mono bW.size, nD.mono (bt bW kb3).size, (bt bW kb3).trans (bd.mono (Nat.le_refl _))⟩
end Go.Proofs.YtiniobcknmaigaaGreat
