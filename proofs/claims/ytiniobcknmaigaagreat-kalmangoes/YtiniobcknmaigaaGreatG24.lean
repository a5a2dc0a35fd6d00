/-
  Texts joined, in the order in which they stand on one another: KRNw KEven RGood.
-/
import Derived.Test.YtiniobcknmaigaaGreatG07
import Derived.Test.YtiniobcknmaigaaGreatG13
import Derived.Test.YtiniobcknmaigaaGreatG21
import Derived.Test.YtiniobcknmaigaaGreatG23
/-
  The code's New: the track is put together.
-/
namespace Go.Proofs.YtiniobcknmaigaaGreat
open Go.RowKit Go.Sort Qm

def knwOps : Array Oper := #[
    { dst := some 14, op := Op.move (Operand.tmp 0), type := 22, pos := "kalman.go:32", after := #[], guard := none },
    { dst := some 15, op := Op.call { callee := Callee.builtin Builtin.len, args := #[Operand.tmp 14], argTypes := #[22] }, type := 3, pos := "kalman.go:32", after := #[{ on := 0, ground := Ground.data }], guard := none },
    { dst := some 16, op := Op.move (Operand.tmp 0), type := 22, pos := "kalman.go:32", after := #[], guard := none },
    { dst := some 17, op := Op.call { callee := Callee.value (Operand.func 46), args := #[Operand.tmp 16], argTypes := #[22] }, type := 22, pos := "kalman.go:32", after := #[{ on := 2, ground := Ground.data }], guard := none },
    { dst := some 18, op := Op.build 24 #[(0, Operand.tmp 15), (1, Operand.const (Value.int IntKind.i64 1)), (2, Operand.tmp 17)], type := 24, pos := "kalman.go:32", after := #[{ on := 1, ground := Ground.data }, { on := 3, ground := Ground.data }], guard := none },
    { dst := some 19, op := Op.load 24 (Operand.tmp 6), type := 24, pos := "kalman.go:32", after := #[], guard := none },
    { dst := some 20, op := Op.build 26 #[(0, Operand.tmp 18), (1, Operand.tmp 19)], type := 26, pos := "kalman.go:32", after := #[{ on := 4, ground := Ground.data }, { on := 5, ground := Ground.data }], guard := none },
    { dst := some 8, op := Op.alloc 26, type := 0, pos := "kalman.go:32", after := #[], guard := none },
    { dst := none, op := Op.store 26 (Operand.tmp 8) (Operand.tmp 20), type := 0, pos := "kalman.go:32", after := #[{ on := 7, ground := Ground.data }, { on := 6, ground := Ground.data }, { on := 3, ground := Ground.chain }, { on := 0, ground := Ground.phase }, { on := 1, ground := Ground.phase }, { on := 2, ground := Ground.phase }, { on := 3, ground := Ground.phase }, { on := 4, ground := Ground.phase }, { on := 5, ground := Ground.phase }, { on := 6, ground := Ground.phase }, { on := 7, ground := Ground.phase }], guard := none }]
def knwDst (i : Nat) : Nat := [14, 15, 16, 17, 18, 19, 20, 8, 1000].getD i 0
def knwFr (D6 : Nat) (xo : Option Addr) (xc : Nat) (xs : List Int) (u1 u2 u3 u4 u5 u7 u9 u10 u11 u12 u13 u21 u22 u23 u24 u25 u26 u27 u28 u29 : Value) (vs : Nat → Value) : Act := ⟨#[.slice xo xs.length xc, u1, u2, u3, u4, u5, .pointer (some ⟨D6, 0, none⟩), u7, vs 8, u9, u10, u11, u12, u13, vs 14, vs 15, vs 16, vs 17, vs 18, vs 19, vs 20, u21, u22, u23, u24, u25, u26, u27, u28, u29], []⟩
def knwT (B : Nat) (r2 c2 : Int) (xo po : Option Addr) (xc pn pc : Nat) (xs : List Int) : Nat → Value → Value → (Nat → Prop) → World → Prop
  | 0, v, _, _, _ => v = .slice xo xs.length xc
  | 1, v, _, _, _ => v = .int .i64 (xs.length : Nat)
  | 2, v, _, _, _ => v = .slice xo xs.length xc
  | 3, v, _, S, w => TNum B xs v S w
  | 4, v, _, S, w => TMat B (xs.length : Nat) 1 xs v S w
  | 5, v, _, _, _ => v = .agg #[.int .i64 r2, .int .i64 c2, .slice po pn pc]
  | 6, v, _, S, w => TNt B (xs.length : Nat) 1 r2 c2 xs (.slice po pn pc) v S w
  | 7, v, _, S, w => TP6 B v S w
  | 8, _, u, S, w => TSn B (xs.length : Nat) 1 r2 c2 xs (.slice po pn pc) u S w
  | _, _, _, _, _ => True
set_option maxRecDepth 40000 in
set_option maxHeartbeats 800000 in
theorem knw_region {Q : Exit → Act → World → Prop} {w0 : World} {D6 : Nat} {r2 c2 : Int} {xo po : Option Addr} {xc pn pc : Nat} {xs : List Int} {u1 u2 u3 u4 u5 u7 u9 u10 u11 u12 u13 u21 u22 u23 u24 u25 u26 u27 u28 u29 : Value}
    (cP : ∀ w, Mod (fun _ => False) w0 w → w.cell? ⟨D6, 0, none⟩ = some (.int .i64 r2) ∧ w.cell? ⟨D6, 1, none⟩ = some (.int .i64 c2) ∧ w.cell? ⟨D6, 2, none⟩ = some (.slice po pn pc))
    (kC : ∀ w, Mod (fun _ => False) w0 w → Calls Tryz.prog 46 #[.slice xo xs.length xc] w fun e b => ∃ v', e = .returned v' ∧ Sees b v' xs ∧ New w.heap.size v' ∧ Below w.heap.size w b) (kL : ∀ w v, Sees w v xs → ∀ q, v.ownBlock = some q → q < w.heap.size)
    (hQ : ∀ vs D ao ac w, Mod (fun _ => False) w0 w → vs 8 = .pointer (some ⟨D, 0, none⟩) → w0.heap.size ≤ D → w.heap[D]? = some (.cells #[.int .i64 (xs.length : Nat), .int .i64 1, .slice ao xs.length ac, .int .i64 r2, .int .i64 c2, .slice po pn pc] 26 (0, 0)) → Sees w (.slice ao xs.length ac) xs → New w0.heap.size (.slice ao xs.length ac) → Q .normal (knwFr D6 xo xc xs u1 u2 u3 u4 u5 u7 u9 u10 u11 u12 u13 u21 u22 u23 u24 u25 u26 u27 u28 u29 vs) w) :
    (Code.region 2 knwOps true).wp Tryz.prog Q (knwFr D6 xo xc xs u1 u2 u3 u4 u5 u7 u9 u10 u11 u12 u13 u21 u22 u23 u24 u25 u26 u27 u28 u29 (fun _ => undef)) w0 := by
  refine wp_region_own (by kernel_rfl) (by decide) knwDst (by decide) (knwFr D6 xo xc xs u1 u2 u3 u4 u5 u7 u9 u10 u11 u12 u13 u21 u22 u23 u24 u25 u26 u27 u28 u29) (fun _ => undef) (fun i => if i = 8 then 7 else i) (by decide) (fun _ => False) (fun q hq => hq.elim) (fun _ _ => False) (fun _ _ h => h.elim) (fun _ _ _ h _ => h.elim)
    (fun s j => s = 8 ∧ j = 7) (fun s j h => by obtain ⟨rfl, rfl⟩ := h; exact ⟨by decide, by decide⟩) (fun s j h => by obtain ⟨rfl, rfl⟩ := h; decide) (knwT w0.heap.size r2 c2 xo po xc pn pc xs) ?_ ?_ ?_
  · intro i v u S w w' hi h hw hw' hz hS
    have hi' : i < 9 := hi
    rcases (by omega : i = 0 ∨ i = 1 ∨ i = 2 ∨ i = 3 ∨ i = 4 ∨ i = 5 ∨ i = 6 ∨ i = 7 ∨ i = 8) with rfl | rfl | rfl | rfl | rfl | rfl | rfl | rfl | rfl
    · exact h
    · exact h
    · exact h
    · exact TNum.stab h (agr_none hw hw' hz hS)
    · exact TMat.stab h (agr_none hw hw' hz hS)
    · exact h
    · exact TNt.stab h (agr_none hw hw' hz hS)
    · exact TP6.stab h (agr_none hw hw' hz hS)
    · exact TSn.stab h (agr_none hw hw' hz hS)
  · intro i hi vs w S hb hp hbd hwr hkl _
    have hi' : i < 9 := hi
    rcases (by omega : i = 0 ∨ i = 1 ∨ i = 2 ∨ i = 3 ∨ i = 4 ∨ i = 5 ∨ i = 6 ∨ i = 7 ∨ i = 8) with rfl | rfl | rfl | rfl | rfl | rfl | rfl | rfl | rfl
    · exact wpOp_of _ rfl rfl (op_move rfl rfl ⟨_, fun _ => False, rfl, rfl, fun _ h => h.elim, fun _ _ h => h.elim, Mod.refl _ _⟩)
    · have h : vs 14 = .slice xo xs.length xc := hp 0 (by decide)
      exact wpOp_of _ rfl rfl (op_lenQ rfl rfl h ⟨_, fun _ => False, rfl, rfl, fun _ h => h.elim, fun _ _ h => h.elim, Mod.refl _ _⟩)
    · exact wpOp_of _ rfl rfl (op_move rfl rfl ⟨_, fun _ => False, rfl, rfl, fun _ h => h.elim, fun _ _ h => h.elim, Mod.refl _ _⟩)
    · have h : vs 16 = .slice xo xs.length xc := hp 2 (by decide)
      exact wpOp_of _ rfl rfl (op_call1 enters_clone rfl h (kC w hb) (by rintro e b ⟨v, rfl, s', n', b'⟩; obtain ⟨so, sc, hv⟩ := s'.slice; exact ⟨_, rfl, _, fun q => v.ownBlock = some q ∧ q < b.heap.size, rfl, ⟨so, sc, hv, s', fun q hq => ⟨⟨hq, kL b v s' q hq⟩, Nat.le_trans hb.size (n' q hq)⟩⟩, fun q hq => .inr (.inl ⟨n' q hq.1, hq.2⟩), fun h => by obtain ⟨s9, h9⟩ := h; exact absurd h9.2 (by decide), Mod.of b'⟩))
    · have h1 : vs 15 = .int .i64 (xs.length : Nat) := hp 1 (by decide)
      obtain ⟨so, sc, hv, h2, h3⟩ : TNum w0.heap.size xs (vs 17) (S 3) w := hp 3 (by decide)
      rw [hv] at h2 h3
      exact wpOp_of _ rfl rfl (op_buildM rfl h1 hv ⟨_, S 3, rfl, ⟨so, sc, rfl, h2, h3⟩, fun q hq => .inl ⟨3, by decide, hq⟩, fun h => by obtain ⟨s9, h9⟩ := h; exact absurd h9.2 (by decide), Mod.refl _ _⟩)
    · exact wpOp_of _ rfl rfl (op_loadM rfl rfl (cP w hb).1 (cP w hb).2.1 (cP w hb).2.2 ⟨_, fun _ => False, rfl, rfl, fun _ h => h.elim, fun _ _ h => h.elim, Mod.refl _ _⟩)
    · obtain ⟨so, sc, h1, h2, h3⟩ : TMat w0.heap.size (xs.length : Nat) 1 xs (vs 18) (S 4) w := hp 4 (by decide)
      have h4 : vs 19 = .agg #[.int .i64 r2, .int .i64 c2, .slice po pn pc] := hp 5 (by decide)
      exact wpOp_of _ rfl rfl (op_buildT rfl h1 h4 ⟨_, S 4, rfl, ⟨so, sc, rfl, h2, h3⟩, fun q hq => .inl ⟨4, by decide, hq⟩, fun h => by obtain ⟨s9, h9⟩ := h; exact absurd h9.2 (by decide), Mod.refl _ _⟩)
    · exact wpOp_of _ rfl rfl (op_alloc26 rfl ⟨_, fun b => b = w.heap.size, rfl, ⟨_, rfl, rfl, hb.size, _, _, _, _, _, _, heap_new _ _⟩, fun b h => .inr (.inl (by subst h; simp)), fun _ b h => .inl (by omega), Mod.of (box_below w _)⟩)
    · obtain ⟨D, hD, hSD, hBD, x0, x1, x2, x3, x4, x5, hbl⟩ : TP6 w0.heap.size (vs 8) (S 7) w := hp 7 (by decide)
      obtain ⟨ao, ac, hf, hs, hso⟩ : TNt w0.heap.size (xs.length : Nat) 1 r2 c2 xs (.slice po pn pc) (vs 20) (S 6) w := hp 6 (by decide)
      have hne : ∀ q, (Value.slice ao xs.length ac).ownBlock = some q → q ≠ D := fun q hq e => hkl 7 ⟨rfl, rfl⟩ 6 (by decide) (by decide) D hSD (e ▸ (hso q hq).1)
      refine wpOp_of _ rfl rfl (op_storeT rfl rfl hD hf hbl ?_)
      exact ⟨undef, fun q => q = D ∨ S 6 q, rfl, ⟨D, ao, ac, hD, .inl rfl, hBD, put_six hbl, hs.six hne _ _ _ _ _ _, fun q hq => ⟨.inr (hso q hq).1, (hso q hq).2⟩⟩, fun q hq => hq.elim (fun h => .inl ⟨7, by decide, h ▸ hSD⟩) (fun h => .inl ⟨6, by decide, h⟩), fun h => by obtain ⟨s9, h9⟩ := h; exact absurd h9.2 (by decide), (mod_six _ _ _ _ _ _).mono fun q _ hq => .inr ⟨7, ⟨rfl, rfl⟩, hq ▸ hSD⟩⟩
  · intro vs w S hb hT
    obtain ⟨D, ao, ac, h1, _, h3, h4, h5, h6⟩ : TSn w0.heap.size (xs.length : Nat) 1 r2 c2 xs (.slice po pn pc) (vs 8) (S 8) w := hT 8 (by decide) (fun s h => by omega)
    exact hQ vs D ao ac w hb h1 h3 h4 h5 (fun q hq => (h6 q hq).2)
end Go.Proofs.YtiniobcknmaigaaGreat

/-
  The code's Even, once more: what it makes is its caller's own, to be written into.
-/
namespace Go.Proofs.YtiniobcknmaigaaGreat
open Go.RowKit Go.Sort Qm

theorem fill_own (R C : Nat) (hR : R ≤ 8) (hC : C ≤ 8) (F : Nat) (hF : ∀ (args : Array Value) (a : World), Sem.run Tryz.prog (callFunc F args) a = Result.ok (Next.enter F args) a) (caps : Array Value) (t : Nat → Int) (w : World)
    (hcall : ∀ (i j : Nat) a, i < R → j < C → Below w.heap.size w a → Calls Tryz.prog F (#[.int .i64 i, .int .i64 j] ++ caps) a (fun e b => e = .returned (.int .i64 (t (i * C + j))) ∧ Below a.heap.size a b)) :
    Calls Tryz.prog 53 #[.agg #[.int .i64 R, .int .i64 C], .func (.func F) #[] caps] w fun e b => ∃ v, e = .returned (.agg #[.int .i64 R, .int .i64 C, v]) ∧ b.ownsRow w.heap.size 27 1 v (R * C) ((tab t (R * C)).map (Value.int .i64)) ∧ Below w.heap.size w b := by
  refine (filled_any R C hR hC F hF caps t none (fun _ a => Below w.heap.size w a) w (fun m e => by cases e) (Below.refl _ _) (fun _ a b h k => h.trans k) ?_).mono ?_
  · intro i j a hi hj hb
    refine (hcall i j a hi hj hb).mono ?_
    rintro e b ⟨rfl, bb⟩
    exact ⟨rfl, bt hb bb, gb_below _ bb⟩
  · rintro e b ⟨v, rfl, hown, hb, _⟩
    exact ⟨v, rfl, hown, hb⟩

theorem even_fill_own (C : Nat) (hC : C ≤ 8) (xs : List Int) (hn : xs.length = C * C) (ha : AllIn xs) (P bk : Nat) (w : World) (hA : AtBox w P bk C xs) :
    Calls Tryz.prog 53 #[.agg #[.int .i64 C, .int .i64 C], .func (.func 91) #[] #[.pointer (some ⟨P, 0, none⟩)]] w fun e b =>
      ∃ v, e = .returned (.agg #[.int .i64 C, .int .i64 C, v]) ∧ b.ownsRow w.heap.size 27 1 v (C * C) ((evn C xs).map (Value.int .i64)) ∧ Below w.heap.size w b := by
  refine fill_own C C hC hC 91 enters57 #[.pointer (some ⟨P, 0, none⟩)] (fun p => half (ge xs p + ge xs ((p % C) * C + p / C)) 1) w ?_
  intro i j a hi hj hb
  have e1 : (i * C + j) % C = j := mod_of hj
  have e2 : (i * C + j) / C = i := div_of hj
  simp only [e1, e2]
  exact even1_any i j C P bk xs a hi hj hC hn ha (hA.below hb)


set_option maxHeartbeats 800000 in
theorem even_own (C : Nat) (h1 : 1 ≤ C) (hC : C ≤ 8) (v : Value) (xs : List Int) (hn : xs.length = C * C) (ha : AllIn xs) (w : World) (hs : Sees w v xs) :
    Calls Tryz.prog 59 #[.agg #[.int .i64 C, .int .i64 C, v]] w fun e b =>
      ∃ v, e = .returned (.tuple #[.agg #[.int .i64 C, .int .i64 C, v], .bool false, .int .i64 0]) ∧ b.ownsRow w.heap.size 27 1 v (C * C) ((evn C xs).map (Value.int .i64)) ∧ Below w.heap.size w b := by
  obtain ⟨ao, cap, rfl⟩ := hs.slice
  have hl : laidB C C xs.length = true := laidB_mk h1 hC h1 hC hn
  have hrk := fun P bk w hA => even_fill_own C hC xs hn ha P bk w hA
  clear hn ha
  go_enter Tryz.func59, Tryz.ntmps59
  go_wp2
  obtain ⟨x1, x2⟩ := allocs2 w (.cells #[.int .i64 C, .int .i64 C, .slice ao xs.length cap] 24) (.cells #[.int .i64 0, .int .i64 0, .slice none 0 0] 24)
  obtain ⟨k0, k1, k2, _⟩ := mat_cells x1
  have m0 := cell_regrown k0
  have m1 := cell_regrown k1
  have m2 := cell_regrown k2
  refine wp_region_quiet_below (by kernel_rfl) (by kernel_rfl) ?_
  repeat (quiet_step (first | exact sizeOf_calm _ _ _ _ _ _ _ _ | exact turned_calm _ _ _ _ _))
  refine wpQuiet_nil ?_
  intro _ hw'
  obtain ⟨⟨dq, osq⟩, hw''⟩ := hw'
  subst hw''
  have b0 := bt (ball2 w (.cells #[.int .i64 C, .int .i64 C, .slice ao xs.length cap] 24) (.cells #[.int .i64 0, .int .i64 0, .slice none 0 0] 24)) (below_regrown ((w.alloc (.cells #[.int .i64 C, .int .i64 C, .slice ao xs.length cap] 24)).alloc (.cells #[.int .i64 0, .int .i64 0, .slice none 0 0] 24)) dq osq)
  have y1 := keep (below_regrown ((w.alloc (.cells #[.int .i64 C, .int .i64 C, .slice ao xs.length cap] 24)).alloc (.cells #[.int .i64 0, .int .i64 0, .slice none 0 0] 24)) dq osq) x1
  have y2 := keep (below_regrown ((w.alloc (.cells #[.int .i64 C, .int .i64 C, .slice ao xs.length cap] 24)).alloc (.cells #[.int .i64 0, .int .i64 0, .slice none 0 0] 24)) dq osq) x2
  obtain ⟨W, hW⟩ : ∃ W, grow (redrawn ((w.alloc (.cells #[.int .i64 C, .int .i64 C, .slice ao xs.length cap] 24)).alloc (.cells #[.int .i64 0, .int .i64 0, .slice none 0 0] 24)) dq) osq = W := ⟨_, rfl⟩
  rw [hW] at b0 y1 y2 ⊢
  clear hW m0 m1 m2 k0 k1 k2 x1 x2
  obtain ⟨k0, k1, k2, _⟩ := mat_cells y1
  go_wp2_with (first
    | (go_at_call 51; refine (laid_any _ _ _ _ _ _).mono ?_; rintro e w1 ⟨rfl, b1⟩; have a1 := keep b1 y1; have r1 := keep b1 y2; have s1 := hs.below (bt b0 b1); obtain ⟨c0, c1, c2, _⟩ := mat_cells a1)
    | (go_at_call 52; refine (numbers_any _ _ _ _ _ _).mono ?_; rintro e w2 ⟨rfl, rfl⟩; obtain ⟨d0, d1, d2, _⟩ := mat_cells (heap_old (heap_old a1 (.cells #[.int .i64 C, .int .i64 C, .slice ao xs.length cap] 24)) (.cells #[.func (.func 89) #[] #[.pointer (some ⟨w1.heap.size, 0, none⟩)]] 83)))
    | (go_at_call 54; refine (sizeOf_any _ _ _ _ _ _).mono ?_; rintro e w3 ⟨rfl, b3⟩; have A3 := (atbox_mk s1).below b3)
    | (go_at_call 53; have r3 := keep b3 (heap_old (heap_old r1 _) _); refine (hrk _ _ _ A3).mono ?_; rintro e w4 ⟨v4, rfl, o4, b4⟩; obtain ⟨ao4, cap4, rfl⟩ := own_slice o4; obtain ⟨f0, f1, f2, g0, g1, g2⟩ := mat_cells (heap_old (keep b4 r3) (.cells #[.int .i64 C, .int .i64 C, .slice ao4 (C * C) cap4] 24))))
  refine bodyPost_ret (v := .tuple #[.agg #[.int .i64 C, .int .i64 C, .slice ao4 (C * C) cap4], .bool false, .int .i64 0]) (by simp [results, Tryz.results59, go_sem, f0, f1, f2]) rfl ?_
  have b5 := bt (bt (bt b0 b1) (ball2 w1 _ _)) b3
  exact ⟨_, rfl, own_mono (ownsRow_setCell_below (ownsRow_setCell_below (ownsRow_setCell_below (o4.alloc _) (lt_of_block r3) _) (lt_of_block r3) _) (lt_of_block r3) _) b5.size, below_put ((bt b5 b4).alloc (bt b5 b4).size _) (by omega) _ _ _⟩
end Go.Proofs.YtiniobcknmaigaaGreat

/-
  The contract of the document's Good.
-/
namespace Go.Proofs.YtiniobcknmaigaaGreat
open Go.RowKit Go.Sort Qm

namespace Qm
/-- the first a numbers of the diagonal that are below 0 are 0 -/
def gdu (n : Nat) (zs : List Int) (a : Nat) (p : Nat) : Int := if p / n = p % n ∧ p / n < a ∧ ge zs p < 0 then 0 else ge zs p
/-- what is good of a matrix -/
def gd (n : Nat) (xs : List Int) : List Int := tab (gdu n (evn n xs) n) (n * n)
theorem gd_len (n : Nat) (xs : List Int) : (gd n xs).length = n * n := tab_len _ _
theorem gdu_at {n i : Nat} (zs : List Int) (hi : i < n) : gdu n zs i (i * n + i) = ge zs (i * n + i) := by
  unfold gdu; rw [div_of hi, mod_of hi, if_neg (by omega)]
theorem gdu_put {n i : Nat} (zs : List Int) (hi : i < n) (hz : ge zs (i * n + i) < 0) (p : Nat) : (if p = i * n + i then 0 else gdu n zs i p) = gdu n zs (i + 1) p := by
  by_cases e : p = i * n + i
  · subst e; rw [if_pos rfl]; unfold gdu; rw [div_of hi, mod_of hi, if_pos ⟨rfl, by omega, hz⟩]
  · rw [if_neg e]
    unfold gdu
    by_cases h : p / n = p % n ∧ p / n < i + 1 ∧ ge zs p < 0
    · have hp : p / n < i := by
        rcases Nat.lt_or_ge (p / n) i with h2 | h2
        · exact h2
        · exfalso; apply e
          have h3 : p / n = i := by omega
          have := Nat.div_add_mod p n
          rw [h3, ← h.1, h3, Nat.mul_comm] at this
          omega
      rw [if_pos h, if_pos ⟨h.1, hp, h.2.2⟩]
    · rw [if_neg h, if_neg (fun g => h ⟨g.1, by omega, g.2.2⟩)]
theorem gdu_stay {n i : Nat} (zs : List Int) (hz : ¬ ge zs (i * n + i) < 0) (p : Nat) : gdu n zs i p = gdu n zs (i + 1) p := by
  unfold gdu
  by_cases h : p / n = p % n ∧ p / n < i + 1 ∧ ge zs p < 0
  · have hp : p / n < i := by
      rcases Nat.lt_or_ge (p / n) i with h2 | h2
      · exact h2
      · exfalso; apply hz
        have h3 : p / n = i := by omega
        have := Nat.div_add_mod p n
        rw [h3, ← h.1, h3, Nat.mul_comm] at this
        have e : p = i * n + i := by omega
        rw [← e]; exact h.2.2
    rw [if_pos h, if_pos ⟨h.1, hp, h.2.2⟩]
  · rw [if_neg h, if_neg (fun g => h ⟨g.1, by omega, g.2.2⟩)]
theorem gdu_zero (n : Nat) (zs : List Int) (p : Nat) : gdu n zs 0 p = ge zs p := by unfold gdu; rw [if_neg (by omega)]
end Qm

theorem own_form {w : World} {B n : Nat} {v : Value} {xs : List Value} (h : w.ownsRow B 27 1 v n xs) (hn : 0 < n) : ∃ g cap, v = .slice (some ⟨g, 0, none⟩) n cap ∧ B ≤ g := by
  rcases h.2 with ⟨_, h0⟩ | ⟨g, cap, cur, e, hb, _⟩
  · omega
  · exact ⟨g, cap, e, hb⟩

set_option maxRecDepth 20000 in
set_option maxHeartbeats 1600000 in
theorem rgood_any (C : Nat) (h2 : 1 ≤ C) (hC : C ≤ 8) (v : Value) (xs : List Int) (hn : xs.length = C * C) (hal : AllIn xs) (w : World) (hs : Sees w v xs) :
    Calls Tryz.prog 27 #[.agg #[.int .i64 C, .int .i64 C, v]] w fun e b =>
      ∃ v, e = .returned (.agg #[.int .i64 C, .int .i64 C, v]) ∧ Sees b v (gd C xs) ∧ New w.heap.size v ∧ Below w.heap.size w b := by
  have h64 : C * C ≤ 64 := mul_le_64 hC hC
  have hpos : 0 < C * C := Nat.mul_pos h2 h2
  have hev := fun w v hs => reven_own C h2 hC v xs hn hal w hs
  obtain ⟨ao, cap, rfl⟩ := hs.slice
  unfold gd
  have hzl : (evn C xs).length = C * C := evn_len C xs
  obtain ⟨zs, hzs⟩ : ∃ zs, evn C xs = zs := ⟨_, rfl⟩
  rw [hzs] at hev hzl ⊢
  obtain ⟨n, hq⟩ : ∃ n, C * C = n := ⟨_, rfl⟩
  have HQ : Hid (C * C = n) := hq
  rw [hq] at hev h64 hpos hzl ⊢
  have HZ : Hid (zs.length = n) := hzl
  clear hn hal hzs hq hzl
  obtain ⟨W, hW⟩ : ∃ W, (w.alloc (.cells #[.int .i64 C, .int .i64 C, .slice ao xs.length cap] 24)).alloc (.cells #[.int .i64 0, .int .i64 0, .slice none 0 0] 24) = W := ⟨_, rfl⟩
  obtain ⟨x1, x2⟩ := allocs2 w (.cells #[.int .i64 C, .int .i64 C, .slice ao xs.length cap] 24) (.cells #[.int .i64 0, .int .i64 0, .slice none 0 0] 24)
  have bq := ball2 w (.cells #[.int .i64 C, .int .i64 C, .slice ao xs.length cap] 24) (.cells #[.int .i64 0, .int .i64 0, .slice none 0 0] 24)
  rw [hW] at x1 x2 bq
  have hE := hev W _ (hs.below bq)
  rw [← hW] at hE
  have HW : Hid (_ = W) := hW
  clear hW hev
  go_enter Tryz.func27, Tryz.ntmps27
  go_wp2_with (go_at_call 62; refine hE.mono ?_; rintro e w1 ⟨v1, rfl, hown, b1⟩; rw [HW.out] at b1 hown; obtain ⟨g, gc, rfl, hgW⟩ := own_form hown hpos)
  have hDg : w.heap.size + 1 < g := Nat.lt_of_lt_of_le (lt_of_block x2) hgW
  have y2 := heap_old (keep b1 x2) (.cells #[.int .i64 C, .int .i64 C, .slice (some ⟨g, 0, none⟩) n gc] 24)
  have y3 := heap_new w1 (.cells #[.int .i64 C, .int .i64 C, .slice (some ⟨g, 0, none⟩) n gc] 24)
  have bw := (bt (bt bq b1) (box_below w1 (.cells #[.int .i64 C, .int .i64 C, .slice (some ⟨g, 0, none⟩) n gc] 24)))
  have hgw : w.heap.size ≤ g := Nat.le_trans bq.size hgW
  have F0 : Fills (w1.alloc (.cells #[.int .i64 C, .int .i64 C, .slice (some ⟨g, 0, none⟩) n gc] 24)) g gc n (gdu C zs 0) (w1.alloc (.cells #[.int .i64 C, .int .i64 C, .slice (some ⟨g, 0, none⟩) n gc] 24)) := by
    refine Fills.start (base := W.heap.size) ?_
    have e : tab (gdu C zs 0) n = zs := tab_ge HZ.out fun k _ => gdu_zero C zs k
    rw [e]
    exact hown.alloc _
  obtain ⟨V, hV⟩ : ∃ V, w1.alloc (.cells #[.int .i64 C, .int .i64 C, .slice (some ⟨g, 0, none⟩) n gc] 24) = V := ⟨_, rfl⟩
  rw [hV] at y2 y3 bw F0 ⊢
  have gx2 := F0.apart y2
  have gx3 := F0.apart y3
  clear hV x1 x2 hown b1 bq hE
  go_loopw [6] (fun i wr => ∃ a : Nat, a ≤ C ∧ i = .int .i64 a ∧ Fills V g gc n (gdu C zs a) wr) (fun i _ => C - (intOf i).toNat)
  case atStart => exact ⟨0, Nat.zero_le _, rfl, F0⟩
  case round =>
    clear F0
    obtain ⟨i, hi, rfl, hF⟩ := hrel
    obtain ⟨v0, v1, v2, _⟩ := mat_cells (hF.keep y3 gx3)
    by_cases hlt : i < C
    · have pA : i * C + i < n := by rw [← HQ.out]; exact at_lt hlt hlt
      have hc := hF.cell pA
      have hf := hF.free (i * C + i)
      rw [gdu_at zs hlt] at hc
      have HFs : Hid (ge zs (i * C + i) < 0 → Fills V g gc n (gdu C zs (i + 1)) (wr.setCell ⟨g, i * C + i, none⟩ (.int .i64 0))) := fun hz => (hF.store (i * C + i) 0).congr fun k _ => gdu_put zs hlt hz k
      have HFn : Hid (¬ ge zs (i * C + i) < 0 → Fills V g gc n (gdu C zs (i + 1)) wr) := fun hz => hF.congr fun k _ => gdu_stay zs hz k
      obtain ⟨x, hx⟩ : ∃ x, ge zs (i * C + i) = x := ⟨_, rfl⟩
      rw [hx] at hc HFs HFn
      clear hx hF
      obtain ⟨qa, hqa⟩ : ∃ qa, i * C = qa := ⟨_, rfl⟩
      have hqi : (i : Int) * (C : Int) = (qa : Int) := by rw [← hqa]; exact (Int.natCast_mul i C).symm
      rw [hqa] at pA hc hf HFs
      clear hqa
      by_cases hz : x < 0
      · have HF := HFs.out hz
        have HF' : Hid _ := HF
        clear HF HFs HFn
        go_wp2
        go_roundw
        case rel => exact ⟨i + 1, by omega, by go_num, HF'.out⟩
        case measure => simp [intOf]; omega
      · have HF := HFn.out hz
        have HF' : Hid _ := HF
        clear HF HFs HFn
        go_wp2
        go_roundw
        case rel => exact ⟨i + 1, by omega, by go_num, HF'.out⟩
        case measure => simp [intOf]; omega
    · have e : i = C := by omega
      subst e
      obtain ⟨d0, d1, d2, f0, f1, f2⟩ := mat_cells (hF.keep y2 gx2)
      have hsh := hF.shows
      have hbl := hF.below bw hgw
      clear hF
      go_wp2
      refine bodyPost_ret (v := .agg #[.int .i64 i, .int .i64 i, .slice (some ⟨g, 0, none⟩) n gc]) (by simp [results, Tryz.results27, go_sem, d0, d1, d2]) rfl ?_
      exact ⟨_, rfl, hsh.put (new_at g n gc) hDg _ _ _, (new_at g n gc).mono hgw, below_put hbl (by omega) _ _ _⟩
end Go.Proofs.YtiniobcknmaigaaGreat
