/-
  Texts joined, in the order in which they stand on one another: KNew KRC1 KRC2.
-/
import Derived.Test.YtiniobcknmaigaaGreatG14
import Derived.Test.YtiniobcknmaigaaGreatG18
import Derived.Test.YtiniobcknmaigaaGreatG21
import Derived.Test.YtiniobcknmaigaaGreatG24
import Derived.Test.YtiniobcknmaigaaGreatG30
/-
  The contract of the code's New, of what may be.
-/
namespace Go.Proofs.YtiniobcknmaigaaGreat
open Go.RowKit Go.Sort Qm

theorem Qm.diaK_in {d : Nat → Int} {n : Nat} (h : ∀ i, i < n → -70368744177664 ≤ d i ∧ d i ≤ 70368744177663) : AllIn (dia d n) := by
  intro p
  by_cases hp : p < n * n
  · unfold dia
    rw [ge_tab hp]
    have hn : 0 < n := by
      rcases Nat.eq_zero_or_pos n with h0 | h0
      · subst h0; omega
      · exact h0
    have h1 : p / n < n := (Nat.div_lt_iff_lt_mul hn).2 hp
    split
    · exact h _ h1
    · omega
  · have e : ge (dia d n) p = 0 := by unfold ge; rw [List.getD_eq_getElem?_getD, List.getElem?_eq_none (by unfold dia; rw [tab_len]; omega)]; rfl
    rw [e]; omega
theorem Qm.diaK_at {d : Nat → Int} {n i j : Nat} (hi : i < n) (hj : j < n) : ge (dia d n) (i * n + j) = if i = j then d i else 0 := by
  unfold dia
  rw [ge_tab (at_lt hi hj), div_of hj, mod_of hj]
theorem Qm.evB_dia {d : Nat → Int} {n : Nat} (h : ∀ i, i < n → 0 ≤ d i) : evB n (dia d n) = true := by
  unfold evB
  apply decide_eq_true
  intro i hi
  refine ⟨by rw [diaK_at hi hi, if_pos rfl]; exact h i hi, fun k hk => ?_⟩
  rw [diaK_at hi (by omega), diaK_at (by omega) hi, if_neg (by omega), if_neg (by omega)]

theorem sees_bound {w : World} {v : Value} {xs : List Int} (h0 : 0 < xs.length) (h : Sees w v xs) : ∀ q, v.ownBlock = some q → q < w.heap.size := h.lt h0
set_option maxRecDepth 20000 in
set_option maxHeartbeats 1600000 in
theorem knew_ok (vx vv : Value) (xs vs : List Int) (h1 : 1 ≤ vs.length) (h8 : vs.length ≤ 8) (hx : xs.length = vs.length) (ox : AllIn xs) (ov : AllIn vs) (hv : ∀ i, i < vs.length → 0 ≤ ge vs i) (w : World) (sx : Sees w vx xs) (sv : Sees w vv vs) :
    Calls Tryz.prog 14 #[vx, vv] w fun e b => ∃ va vb, e = .returned (.tuple #[.agg #[.int .i64 vs.length, .int .i64 1, va, .int .i64 vs.length, .int .i64 vs.length, vb], .int .i64 0]) ∧ Sees b va xs ∧ Sees b vb (dia (ge vs) vs.length) ∧ Below w.heap.size w b := by
  have hout : outB vs vs.length = false := anyB_none fun k _ => by have := ov k; unfold ob; simp; omega
  have kD := fun v hs => diag_any vv vs h1 h8 hout v hs
  have px : 0 < xs.length := by omega
  have l1 : xs.length ≤ 100 := by omega
  have ld : (dia (ge vs) vs.length).length = vs.length * vs.length := tab_len _ _
  have l2 : (dia (ge vs) vs.length).length ≤ 100 := by rw [ld]; have := mul_le_64 h8 h8; omega
  have kR := fun va vb v sa sb => kright_any (xs.length : Nat) 1 (vs.length : Nat) (vs.length : Nat) va vb xs (dia (ge vs) vs.length) l1 l2 v sa sb
  have hR : trkB (xs.length : Nat) 1 xs (vs.length : Nat) (vs.length : Nat) (dia (ge vs) vs.length) = true := by
    have r1 : rightB (xs.length : Nat) 1 xs = true := right_mk (R := xs.length) (C := 1) ⟨rfl, rfl, by omega, by omega, by omega, by omega, by omega, ox⟩
    have r2 : rightB (vs.length : Nat) (vs.length : Nat) (dia (ge vs) vs.length) = true := right_mk ⟨rfl, rfl, h1, h8, h1, h8, ld, diaK_in fun i _ => ov i⟩
    unfold trkB
    rw [r1, r2, hx]
    simp [evB_dia hv]
  rw [hR] at kR
  have kC := fun v hs => clone_any vx xs px l1 v hs
  have pd : 0 < (dia (ge vs) vs.length).length := by rw [ld]; exact Nat.mul_pos h1 h1
  obtain ⟨xo, xc, rfl⟩ := sx.slice
  obtain ⟨vo, vc, rfl⟩ := sv.slice
  have bW := box_below w (.cells #[.int .i64 0, .int .i64 0, .slice none 0 0, .int .i64 0, .int .i64 0, .slice none 0 0] 26)
  have x1 := heap_new w (.cells #[.int .i64 0, .int .i64 0, .slice none 0 0, .int .i64 0, .int .i64 0, .slice none 0 0] 26)
  obtain ⟨W, hW⟩ : ∃ W, w.alloc (.cells #[.int .i64 0, .int .i64 0, .slice none 0 0, .int .i64 0, .int .i64 0, .slice none 0 0] 26) = W := ⟨_, rfl⟩
  rw [hW] at bW x1
  have k1 := kD W (sv.below bW)
  have HX : Hid (xs.length = vs.length) := hx
  clear hx hv ox ov hout ld l1 l2 hR kD
  generalize dia (ge vs) vs.length = ds at k1 kR pd ⊢
  generalize vs.length = n at *
  go_enter Tryz.func14, Tryz.ntmps14
  go_wp2_with (go_at_call 45; go_must (refine k1.mono ?_); rintro e wa ⟨va, rfl, sa, na, b1⟩; obtain ⟨ao, ac, rfl⟩ := sa.slice)
  have h6 := heap_new wa (.cells #[.int .i64 n, .int .i64 n, .slice ao ds.length ac] 24)
  have b1' := bt b1 (box_below wa (.cells #[.int .i64 n, .int .i64 n, .slice ao ds.length ac] 24))
  have sa' := sa.alloc (.cells #[.int .i64 n, .int .i64 n, .slice ao ds.length ac] 24)
  generalize wa.alloc (.cells #[.int .i64 n, .int .i64 n, .slice ao ds.length ac] 24) = w0 at h6 b1' sa' ⊢
  have hM : ∀ v, Mod (fun _ => False) w0 v → Below w0.heap.size w0 v := fun v hv => hv.below (Nat.le_refl _) (fun _ h => h.elim)
  refine knw_region (D6 := wa.heap.size) (r2 := n) (c2 := n) (xo := xo) (po := ao) (xc := xc) (pn := ds.length) (pc := ac) (xs := xs) (fun v hv => three_mod (keep (hM v hv) h6)) (fun v hv => kC v (((sx.below bW).below b1').below (hM v hv))) (fun v u hu => hu.lt px) ?_
  intro us D xo' xc' wb mb e8 hD hbD sD nD
  unfold knwFr
  rw [e8]
  have bb := hM wb mb
  have sP := sa'.below bb
  have hR2 := kR _ _ wb sD sP
  have h4 := keep (bt b1' bb) x1
  obtain ⟨c0, c1, c2, c3, c4, c5⟩ := six_cells hbD
  have hDl := lt_of_block hbD
  clear kR kC sa sa' mb
  go_wp2_with (go_at_call 47; go_must (refine hR2.mono ?_); rintro e wc ⟨rfl, b3⟩; obtain ⟨d0, d1, d2, d3, d4, d5⟩ := six_cells (keep b3 hbD); obtain ⟨g0, g1, g2, g3, g4, g5⟩ := six_cells (keep b3 h4); obtain ⟨f0, f1, f2, f3, f4, f5⟩ := six_free (keep b3 h4))
  refine bodyPost_ret (v := .tuple #[.agg #[.int .i64 n, .int .i64 1, .slice xo' xs.length xc', .int .i64 n, .int .i64 n, .slice ao ds.length ac], .int .i64 0]) (by simp [results, Tryz.results14, go_sem, g0, g1, g2, g3, g4, g5, HX.out]) rfl ?_
  have hw0 : w.heap.size < W.heap.size := lt_of_block x1
  have z1 := b1'.size
  refine ⟨_, _, rfl, ?_, ?_, ?_⟩
  · exact (sD.below b3).six (fun k hk => by have := nD k hk; omega) _ _ _ _ _ _
  · exact (sP.below b3).six (fun k hk => by have := na k hk; omega) _ _ _ _ _ _
  · exact below_six (bt bW (bt (bt b1' bb) b3)) (Nat.le_refl _) _ _ _ _ _ _
end Go.Proofs.YtiniobcknmaigaaGreat

/-
  The code's corrected: k.
-/
namespace Go.Proofs.YtiniobcknmaigaaGreat
open Go.RowKit Go.Sort Qm

def kc1Ops : Array Oper := #[
    { dst := some 20, op := Op.move (Operand.tmp 0), type := 56, pos := "kalman.go:116", after := #[], guard := none },
    { dst := some 21, op := Op.fieldAddr 26 (Operand.tmp 7) 1, type := 0, pos := "kalman.go:116", after := #[], guard := none },
    { dst := some 22, op := Op.load 24 (Operand.tmp 21), type := 24, pos := "kalman.go:116", after := #[{ on := 1, ground := Ground.data }], guard := none },
    { dst := some 23, op := Op.load 24 (Operand.tmp 8), type := 24, pos := "kalman.go:116", after := #[], guard := none },
    { dst := some 24, op := Op.call { callee := Callee.value (Operand.func 21), args := #[Operand.tmp 23], argTypes := #[24] }, type := 24, pos := "kalman.go:116", after := #[{ on := 3, ground := Ground.data }], guard := none },
    { dst := some 25, op := Op.call { callee := Callee.value (Operand.func 20), args := #[Operand.tmp 24], argTypes := #[24] }, type := 58, pos := "kalman.go:116", after := #[{ on := 4, ground := Ground.data }, { on := 4, ground := Ground.chain }], guard := none },
    { dst := some 26, op := Op.makeFunc (Fn.func 64) #[] #[Operand.tmp 10], type := 74, pos := "kalman.go:116", after := #[], guard := none },
    { dst := some 27, op := Op.call { callee := Callee.value (Operand.func 37), args := #[Operand.tmp 26], argTypes := #[74] }, type := 58, pos := "kalman.go:117", after := #[{ on := 6, ground := Ground.data }, { on := 5, ground := Ground.chain }], guard := none },
    { dst := some 28, op := Op.buildSlice 79 2 #[(0, Operand.tmp 25), (1, Operand.tmp 27)], type := 79, pos := "kalman.go:116", after := #[{ on := 5, ground := Ground.data }, { on := 7, ground := Ground.data }], guard := none },
    { dst := some 29, op := Op.call { callee := Callee.value (Operand.func 17), args := #[Operand.tmp 20, Operand.tmp 22, Operand.tmp 28], argTypes := #[56, 24, 79] }, type := 24, pos := "kalman.go:116", after := #[{ on := 0, ground := Ground.data }, { on := 2, ground := Ground.data }, { on := 8, ground := Ground.data }, { on := 7, ground := Ground.chain }], guard := none },
    { dst := some 13, op := Op.alloc 24, type := 0, pos := "kalman.go:116", after := #[], guard := none },
    { dst := none, op := Op.store 24 (Operand.tmp 13) (Operand.tmp 29), type := 0, pos := "kalman.go:116", after := #[{ on := 10, ground := Ground.data }, { on := 9, ground := Ground.data }, { on := 9, ground := Ground.chain }, { on := 0, ground := Ground.phase }, { on := 1, ground := Ground.phase }, { on := 2, ground := Ground.phase }, { on := 3, ground := Ground.phase }, { on := 4, ground := Ground.phase }, { on := 5, ground := Ground.phase }, { on := 6, ground := Ground.phase }, { on := 7, ground := Ground.phase }, { on := 8, ground := Ground.phase }, { on := 9, ground := Ground.phase }, { on := 10, ground := Ground.phase }], guard := none }]
def kc1Dst (i : Nat) : Nat := [20, 21, 22, 23, 24, 25, 26, 27, 28, 29, 13, 1000].getD i 0
def kc1Fr (N : Nat) (D7 : Nat) (D8 : Nat) (D10 : Nat) (u1 u2 u3 u4 u5 u6 u9 u11 u12 u14 u15 u16 u17 u18 u19 u30 u31 u32 u33 u34 u35 u36 u37 u38 u39 u40 u41 u42 u43 u44 u45 u46 u47 u48 u49 u50 u51 u52 u53 u54 u55 u56 u57 u58 u59 u60 u61 u62 u63 u64 u65 u66 u67 u68 u69 u70 u71 u72 u73 u74 u75 u76 u77 u78 u79 u80 u81 : Value) (vs : Nat → Value) : Act := ⟨#[.func (.func 18) #[.pointer (some ⟨N, 0, none⟩)] #[], u1, u2, u3, u4, u5, u6, .pointer (some ⟨D7, 0, none⟩), .pointer (some ⟨D8, 0, none⟩), u9, .pointer (some ⟨D10, 0, none⟩), u11, u12, vs 13, u14, u15, u16, u17, u18, u19, vs 20, vs 21, vs 22, vs 23, vs 24, vs 25, vs 26, vs 27, vs 28, vs 29, u30, u31, u32, u33, u34, u35, u36, u37, u38, u39, u40, u41, u42, u43, u44, u45, u46, u47, u48, u49, u50, u51, u52, u53, u54, u55, u56, u57, u58, u59, u60, u61, u62, u63, u64, u65, u66, u67, u68, u69, u70, u71, u72, u73, u74, u75, u76, u77, u78, u79, u80, u81], []⟩
def kc1T (B : Nat) (m0 : Bool) (N : Nat) (D7 : Nat) (D10 : Nat) (n : Nat) (po : Option Addr) (pcap : Nat) (ho : Option Addr) (hcap : Nat) (hs : List Int) (ts : List Int) (X0 X1 X2 : List Int) (b0 b1 : Bool) : Nat → Value → Value → (Nat → Prop) → World → Prop
  | 0, v, _, _, _ => v = .func (.func 18) #[.pointer (some ⟨N, 0, none⟩)] #[]
  | 1, v, _, _, _ => v = .pointer (some ⟨D7, 3, none⟩)
  | 2, v, _, _, _ => v = .agg #[.int .i64 n, .int .i64 n, .slice po X0.length pcap]
  | 3, v, _, _, _ => v = .agg #[.int .i64 1, .int .i64 n, .slice ho hs.length hcap]
  | 4, v, _, S, w => TMat B n 1 ts v S w
  | 5, v, _, S, w => StepV B N n n X0 n 1 X1 b0 v S w
  | 6, v, _, _, _ => v = .func (.func 64) #[] #[.pointer (some ⟨D10, 0, none⟩)]
  | 7, v, _, S, w => StepV B N n 1 X1 n 1 X2 b1 v S w
  | 8, v, _, S, w => TSl B [StepV B N n n X0 n 1 X1 b0, StepV B N n 1 X1 n 1 X2 b1] v S w
  | 9, v, _, S, w => TRes B N n 1 X2 (m0 || anyB (fun i => [b0, b1].getD i false) 2) v S w
  | 10, v, _, S, w => TPtr B v S w
  | 11, _, u, S, w => TSto B n 1 X2 u S w
  | _, _, _, _, _ => True
set_option maxRecDepth 40000 in
set_option maxHeartbeats 400000 in
theorem kc1_region {Q : Exit → Act → World → Prop} {w0 : World} {m0 : Bool} {N : Nat} {D7 : Nat} {D8 : Nat} {D10 : Nat} {n : Nat} {po : Option Addr} {pcap : Nat} {ho : Option Addr} {hcap : Nat} {hs : List Int} {ts : List Int} {u1 u2 u3 u4 u5 u6 u9 u11 u12 u14 u15 u16 u17 u18 u19 u30 u31 u32 u33 u34 u35 u36 u37 u38 u39 u40 u41 u42 u43 u44 u45 u46 u47 u48 u49 u50 u51 u52 u53 u54 u55 u56 u57 u58 u59 u60 u61 u62 u63 u64 u65 u66 u67 u68 u69 u70 u71 u72 u73 u74 u75 u76 u77 u78 u79 u80 u81 : Value} (X0 X1 X2 : List Int) (b0 b1 : Bool) (hN : w0.heap[N]? = some (.cells #[.bool m0, .int .i64 0] 54 (0, 0))) (hpos : ∀ i, i ≤ 2 → 0 < ([X0, X1, X2].getD i []).length)
    (cP : ∀ w, Mod (fun b => b = N) w0 w → w.cell? ⟨D7, 3, none⟩ = some (.int .i64 n) ∧ w.cell? ⟨D7, 4, none⟩ = some (.int .i64 n) ∧ w.cell? ⟨D7, 5, none⟩ = some (.slice po X0.length pcap))
    (cH : ∀ w, Mod (fun b => b = N) w0 w → w.cell? ⟨D8, 0, none⟩ = some (.int .i64 1) ∧ w.cell? ⟨D8, 1, none⟩ = some (.int .i64 n) ∧ w.cell? ⟨D8, 2, none⟩ = some (.slice ho hs.length hcap))
    (sP : Sees w0 (.slice po X0.length pcap) X0) (oP : Old w0.heap.size N (.slice po X0.length pcap))
    (kT24 : ∀ w, Mod (fun b => b = N) w0 w → Calls Tryz.prog 21 #[.agg #[.int .i64 1, .int .i64 n, .slice ho hs.length hcap]] w fun e b => ∃ v, e = .returned (.agg #[.int .i64 n, .int .i64 1, v]) ∧ Sees b v ts ∧ New w.heap.size v ∧ Below w.heap.size w b) (z24 : 0 < ts.length)
    (st0 : ∀ w A va S, w.heap[A]? = some (.cells #[.int .i64 n, .int .i64 1, va] 24 (0, 0)) → S A → Sees w va ts → OkS w0.heap.size N S va → StepV w0.heap.size N n n X0 n 1 X1 b0 (.func (.func 50) #[] #[.pointer (some ⟨A, 0, none⟩)]) S w)
    (st1 : ∀ w A S, Mod (fun b => b = N) w0 w → w.heap[A]? = some (.cells #[.func (.func 64) #[] #[.pointer (some ⟨D10, 0, none⟩)]] 74 (0, 0)) → S A → StepV w0.heap.size N n 1 X1 n 1 X2 b1 (.func (.func 73) #[] #[.pointer (some ⟨A, 0, none⟩)]) S w)
    (hQ : ∀ vs D ao cap w, Mod (fun b => b = N) w0 w → vs 13 = .pointer (some ⟨D, 0, none⟩) → w0.heap.size ≤ D → w.heap[D]? = some (.cells #[.int .i64 n, .int .i64 1, .slice ao X2.length cap] 24 (0, 0)) → Sees w (.slice ao X2.length cap) X2 → (∀ q, (Value.slice ao X2.length cap).ownBlock = some q → w0.heap.size ≤ q) → w.heap[N]? = some (.cells #[.bool (m0 || anyB (fun i => [b0, b1].getD i false) 2), .int .i64 0] 54 (0, 0)) → Q .normal (kc1Fr N D7 D8 D10 u1 u2 u3 u4 u5 u6 u9 u11 u12 u14 u15 u16 u17 u18 u19 u30 u31 u32 u33 u34 u35 u36 u37 u38 u39 u40 u41 u42 u43 u44 u45 u46 u47 u48 u49 u50 u51 u52 u53 u54 u55 u56 u57 u58 u59 u60 u61 u62 u63 u64 u65 u66 u67 u68 u69 u70 u71 u72 u73 u74 u75 u76 u77 u78 u79 u80 u81 vs) w) :
    (Code.region 1 kc1Ops true).wp Tryz.prog Q (kc1Fr N D7 D8 D10 u1 u2 u3 u4 u5 u6 u9 u11 u12 u14 u15 u16 u17 u18 u19 u30 u31 u32 u33 u34 u35 u36 u37 u38 u39 u40 u41 u42 u43 u44 u45 u46 u47 u48 u49 u50 u51 u52 u53 u54 u55 u56 u57 u58 u59 u60 u61 u62 u63 u64 u65 u66 u67 u68 u69 u70 u71 u72 u73 u74 u75 u76 u77 u78 u79 u80 u81 (fun _ => undef)) w0 := by
  refine wp_region_own (by kernel_rfl) (by decide) kc1Dst (by decide) (kc1Fr N D7 D8 D10 u1 u2 u3 u4 u5 u6 u9 u11 u12 u14 u15 u16 u17 u18 u19 u30 u31 u32 u33 u34 u35 u36 u37 u38 u39 u40 u41 u42 u43 u44 u45 u46 u47 u48 u49 u50 u51 u52 u53 u54 u55 u56 u57 u58 u59 u60 u61 u62 u63 u64 u65 u66 u67 u68 u69 u70 u71 u72 u73 u74 u75 u76 u77 u78 u79 u80 u81) (fun _ => undef) (fun i => if i = 11 then 10 else i) (by decide) (fun b => b = N) (fun q hq => by subst hq; exact lt_of_block hN) (fun i q => i = 9 ∧ q = N) (fun i q h => h.2) (fun i j q h h' => h.1.trans h'.1.symm)
    (fun s j => s = 11 ∧ j = 10) (fun s j h => by obtain ⟨rfl, rfl⟩ := h; exact ⟨by decide, by decide⟩) (fun s j h => by obtain ⟨rfl, rfl⟩ := h; decide) (kc1T w0.heap.size m0 N D7 D10 n po pcap ho hcap hs ts X0 X1 X2 b0 b1) ?_ ?_ ?_
  · intro i v u S w w' hi h hw hw' hz hS
    have ha : Agr w0.heap.size N S w w' := agr_of hw hw' hz hS
    have hi' : i < 12 := hi
    rcases (by omega : i = 0 ∨ i = 1 ∨ i = 2 ∨ i = 3 ∨ i = 4 ∨ i = 5 ∨ i = 6 ∨ i = 7 ∨ i = 8 ∨ i = 9 ∨ i = 10 ∨ i = 11) with rfl | rfl | rfl | rfl | rfl | rfl | rfl | rfl | rfl | rfl | rfl | rfl
    · exact h
    · exact h
    · exact h
    · exact h
    · exact TMat.stab h ha
    · exact StepV.stab h ha
    · exact h
    · exact StepV.stab h ha
    · exact TSl.stab h (fun t ht u htu => (by simp only [List.mem_cons, List.not_mem_nil, or_false] at ht; rcases ht with rfl | rfl <;> exact StepV.stab htu ha)) ha
    · exact TRes.stab h ha
    · exact TPtr.stab h ha
    · exact TSto.stab h ha
  · intro i hi vs w S hb hp hbd hwr hkl _
    have hi' : i < 12 := hi
    rcases (by omega : i = 0 ∨ i = 1 ∨ i = 2 ∨ i = 3 ∨ i = 4 ∨ i = 5 ∨ i = 6 ∨ i = 7 ∨ i = 8 ∨ i = 9 ∨ i = 10 ∨ i = 11) with rfl | rfl | rfl | rfl | rfl | rfl | rfl | rfl | rfl | rfl | rfl | rfl
    · exact wpOp_of _ rfl rfl (op_move rfl rfl ⟨_, fun _ => False, rfl, rfl, fun _ h => h.elim, fun _ _ h => h.elim, Mod.refl _ _⟩)
    · exact wpOp_of _ rfl rfl (op_fieldT (i := 1) (by decide) rfl rfl ⟨_, fun _ => False, rfl, rfl, fun _ h => h.elim, fun _ _ h => h.elim, Mod.refl _ _⟩)
    · have h1 : vs 21 = .pointer (some ⟨D7, 3, none⟩) := hp 1 (by decide)
      exact wpOp_of _ rfl rfl (op_loadM rfl h1 (cP w hb).1 (cP w hb).2.1 (cP w hb).2.2 ⟨_, fun _ => False, rfl, rfl, fun _ h => h.elim, fun _ _ h => h.elim, Mod.refl _ _⟩)
    · exact wpOp_of _ rfl rfl (op_loadM rfl rfl (cH w hb).1 (cH w hb).2.1 (cH w hb).2.2 ⟨_, fun _ => False, rfl, rfl, fun _ h => h.elim, fun _ _ h => h.elim, Mod.refl _ _⟩)
    · have h3 : vs 23 = .agg #[.int .i64 1, .int .i64 n, .slice ho hs.length hcap] := hp 3 (by decide)
      exact wpOp_of _ rfl rfl (op_call1 enters_trans rfl h3 (kT24 w hb) (by rintro e b ⟨v, rfl, s', n', b'⟩; have hl := s'.lt z24; obtain ⟨so, sc, rfl⟩ := s'.slice; exact ⟨_, rfl, _, fun q => (Value.slice so ts.length sc).ownBlock = some q, rfl, ⟨so, sc, rfl, s', fun q hq => ⟨hq, Nat.le_trans hb.size (n' q hq)⟩⟩, fun q hq => .inr (.inl ⟨n' q hq, hl q hq⟩), fun h => by obtain ⟨s9, h9⟩ := h; exact absurd h9.2 (by decide), Mod.of b'⟩))
    · obtain ⟨so, sc, h4, s4, n4⟩ : TMat w0.heap.size n 1 ts (vs 24) (S 4) w := hp 4 (by decide)
      exact wpOp_of _ rfl rfl (op_call1 enters_mrght rfl h4 (rght_any _ _ _ _ _ w) (by rintro e b ⟨rfl, rfl⟩; exact ⟨_, rfl, _, fun q => q = w.heap.size ∨ S 4 q, rfl, st0 _ _ _ _ (heap_new _ _) (.inl rfl) (s4.alloc _) (fun q hq => .inl (.inr (n4 q hq).1)), fun q hq => hq.elim (fun h => .inr (.inl (by subst h; simp))) (fun h => .inl ⟨4, by decide, h⟩), fun h => by obtain ⟨s9, h9⟩ := h; exact absurd h9.2 (by decide), Mod.of (box_below w _)⟩))
    · exact wpOp_of _ rfl rfl (op_makeFunc2 rfl rfl ⟨_, fun _ => False, rfl, rfl, fun _ h => h.elim, fun _ _ h => h.elim, Mod.refl _ _⟩)
    · have h6 : vs 26 = .func (.func 64) #[] #[.pointer (some ⟨D10, 0, none⟩)] := hp 6 (by decide)
      exact wpOp_of _ rfl rfl (op_call1 enters_meach rfl h6 (each_any _ _ w) (by rintro e b ⟨rfl, rfl⟩; exact ⟨_, rfl, _, fun q => q = w.heap.size, rfl, st1 _ _ _ (hb.trans (Mod.of (box_below w _))) (heap_new _ _) rfl, fun q hq => .inr (.inl (by subst hq; simp)), fun h => by obtain ⟨s9, h9⟩ := h; exact absurd h9.2 (by decide), Mod.of (box_below w _)⟩))
    · have t0 : StepV w0.heap.size N n n X0 n 1 X1 b0 (vs 25) (S 5) w := hp 5 (by decide)
      obtain ⟨F0, c0, e0, _⟩ := id t0
      have t1 : StepV w0.heap.size N n 1 X1 n 1 X2 b1 (vs 27) (S 7) w := hp 7 (by decide)
      obtain ⟨F1, c1, e1, _⟩ := id t1
      have hX : ∀ j, j < 2 → ∀ q, ([S 5, S 7].getD j (fun _ => False)) q → q < w.heap.size := by
        intro j hj q hq
        rcases (by omega : j = 0 ∨ j = 1) with rfl | rfl
        · exact (hbd 5 (by decide) q hq).1
        · exact (hbd 7 (by decide) q hq).1
      have t0' : StepV w0.heap.size N n n X0 n 1 X1 b0 (.func (.func F0) #[] c0) (fun q => q = w.heap.size ∨ S 5 q ∨ S 7 q) (w.alloc (.cells #[.func (.func F0) #[] c0, .func (.func F1) #[] c1] 58)) := by
        have z := (t0.stab (w' := w.alloc (.cells #[.func (.func F0) #[] c0, .func (.func F1) #[] c1] 58)) ⟨(box_below w _).size, fun q hq => (box_below w _).block q (hq.elim (fun h => hX 0 (by decide) q h) (fun h => Nat.lt_of_lt_of_le h.1 hb.size))⟩).mono (S' := fun q => q = w.heap.size ∨ S 5 q ∨ S 7 q) (fun q h => .inr (.inl h))
        rw [e0] at z
        exact z
      have t1' : StepV w0.heap.size N n 1 X1 n 1 X2 b1 (.func (.func F1) #[] c1) (fun q => q = w.heap.size ∨ S 5 q ∨ S 7 q) (w.alloc (.cells #[.func (.func F0) #[] c0, .func (.func F1) #[] c1] 58)) := by
        have z := (t1.stab (w' := w.alloc (.cells #[.func (.func F0) #[] c0, .func (.func F1) #[] c1] 58)) ⟨(box_below w _).size, fun q hq => (box_below w _).block q (hq.elim (fun h => hX 1 (by decide) q h) (fun h => Nat.lt_of_lt_of_le h.1 hb.size))⟩).mono (S' := fun q => q = w.heap.size ∨ S 5 q ∨ S 7 q) (fun q h => .inr (.inr (h)))
        rw [e1] at z
        exact z
      have hTS : ∀ (i : Nat) (t : Value → (Nat → Prop) → World → Prop) (u : Value), [StepV w0.heap.size N n n X0 n 1 X1 b0, StepV w0.heap.size N n 1 X1 n 1 X2 b1][i]? = some t → [.func (.func F0) #[] c0, .func (.func F1) #[] c1][i]? = some u → t u (fun q => q = w.heap.size ∨ S 5 q ∨ S 7 q) (w.alloc (.cells #[.func (.func F0) #[] c0, .func (.func F1) #[] c1] 58)) := by
        intro i t u ht hu
        have hi : i < 2 := by have := (List.getElem?_eq_some_iff.1 ht).1; simpa using this
        rcases (by omega : i = 0 ∨ i = 1) with rfl | rfl
        · cases ht; cases hu; exact t0'
        · cases ht; cases hu; exact t1'
      exact wpOp_of _ rfl rfl (op_slice2 rfl e0 e1 ⟨_, fun q => q = w.heap.size ∨ S 5 q ∨ S 7 q, rfl, ⟨w.heap.size, [.func (.func F0) #[] c0, .func (.func F1) #[] c1], rfl, .inl rfl, hb.size, rfl, heap_new _ _, hTS⟩, fun q hq => hq.elim (fun h => .inr (.inl (by subst h; simp))) (fun h => h.elim (fun h => .inl ⟨5, by decide, h⟩) (fun h => .inl ⟨7, by decide, h⟩)), fun h => (by obtain ⟨s9, h9⟩ := h; exact absurd h9.2 (by decide)), Mod.of (box_below w _)⟩)
    · have h0 : vs 20 = .func (.func 18) #[.pointer (some ⟨N, 0, none⟩)] #[] := hp 0 (by decide)
      have h2 : vs 22 = .agg #[.int .i64 n, .int .i64 n, .slice po X0.length pcap] := hp 2 (by decide)
      have hT : TSl w0.heap.size [StepV w0.heap.size N n n X0 n 1 X1 b0, StepV w0.heap.size N n 1 X1 n 1 X2 b1] (vs 28) (S 8) w := hp 8 (by decide)
      have hn0 : w.heap[N]? = some (.cells #[.bool m0, .int .i64 0] 54 (0, 0)) := (hwr N rfl (fun j h => ⟨by rw [h.1]; decide, .inl h.1⟩)).trans hN
      exact wpOp_of _ rfl rfl (op_call3 enters_kreck rfl h0 h2 rfl (reck_call 2 (by decide) (by decide) (fun i => [n, n, n].getD i 0) (fun i => [n, 1, 1].getD i 0) (fun i => [X0, X1, X2].getD i []) (fun i => [b0, b1].getD i false) N m0 w0 w _ _ (S 8) hb hn0 (hT) (fun b hSb => ⟨(hbd 8 (by decide) b hSb).1, fun e => (hbd 8 (by decide) b hSb).2 ⟨rfl, e⟩⟩) hpos (sP.mod oP hb) (fun b hb' => (oP b hb').2)) (by rintro e b ⟨x, S', rfl, hR, hS', hM⟩; exact ⟨_, rfl, _, S', rfl, hR, fun q hq => (hS' q hq).elim (fun h => .inr (.inl h)) (fun h => .inr (.inr ⟨rfl, h⟩)), fun h => by obtain ⟨s9, h9⟩ := h; exact absurd h9.2 (by decide), hM.mono fun q _ hq => .inl ⟨rfl, hq⟩⟩))
    · exact wpOp_of _ rfl rfl (op_alloc24 rfl ⟨_, fun b => b = w.heap.size, rfl, ⟨_, rfl, rfl, hb.size, _, _, _, heap_new _ _⟩, fun b h => .inr (.inl (by subst h; simp)), fun _ b h => .inl (by omega), Mod.of (box_below w _)⟩)
    · obtain ⟨D, hD, hSD, hBD, x, y, z, hbl⟩ : TPtr w0.heap.size (vs 13) (S 10) w := hp 10 (by decide)
      obtain ⟨⟨ao, cap, hf, hs, hso⟩, _⟩ : TRes w0.heap.size N n 1 X2 (m0 || anyB (fun i => [b0, b1].getD i false) 2) (vs 29) (S 9) w := hp 9 (by decide)
      have hne : ∀ q, (Value.slice ao X2.length cap).ownBlock = some q → q ≠ D := fun q hq e => hkl 10 ⟨rfl, rfl⟩ 9 (by decide) (by decide) D hSD (e ▸ (hso q hq).1)
      refine wpOp_of _ rfl rfl (op_store24 rfl rfl hD hf hbl ?_)
      refine ⟨undef, fun q => q = D ∨ S 9 q, rfl, ⟨D, ao, cap, hD, .inl rfl, hBD, put_mat hbl, ((hs.set' (a := ⟨D, 0, none⟩) hne _).set' (a := ⟨D, 1, none⟩) hne _).set' (a := ⟨D, 2, none⟩) hne _, fun q hq => ⟨.inr (hso q hq).1, (hso q hq).2⟩⟩, fun q hq => hq.elim (fun h => .inl ⟨10, by decide, h ▸ hSD⟩) (fun h => .inl ⟨9, by decide, h⟩), fun h => by obtain ⟨s9, h9⟩ := h; exact absurd h9.2 (by decide), ?_⟩
      refine ⟨rfl, rfl, rfl, by simp [World.setCell], fun q hq hq' => ?_⟩
      have hqD : q ≠ D := fun e => hq' (.inr ⟨10, ⟨rfl, rfl⟩, e ▸ hSD⟩)
      rw [Below.heap_setCell _ _ _ _ hqD, Below.heap_setCell _ _ _ _ hqD, Below.heap_setCell _ _ _ _ hqD]
  · intro vs w S hb hT
    obtain ⟨D, ao, cap, h1, _, h3, h4, h5, h6⟩ : TSto w0.heap.size n 1 X2 (vs 13) (S 11) w := hT 11 (by decide) (fun s h => by omega)
    obtain ⟨_, _, h7⟩ : TRes w0.heap.size N n 1 X2 (m0 || anyB (fun i => [b0, b1].getD i false) 2) (vs 29) (S 9) w := hT 9 (by decide) (fun s h => by omega)
    exact hQ vs D ao cap w hb h1 h3 h4 h5 (fun q hq => (h6 q hq).2) h7
end Go.Proofs.YtiniobcknmaigaaGreat

/-
  The code's corrected: X.
-/
namespace Go.Proofs.YtiniobcknmaigaaGreat
open Go.RowKit Go.Sort Qm

def kc2Ops : Array Oper := #[
    { dst := some 30, op := Op.move (Operand.tmp 0), type := 56, pos := "kalman.go:118", after := #[], guard := none },
    { dst := some 31, op := Op.load 24 (Operand.tmp 13), type := 24, pos := "kalman.go:118", after := #[], guard := none },
    { dst := some 32, op := Op.move (Operand.tmp 3), type := 27, pos := "kalman.go:118", after := #[], guard := none },
    { dst := some 33, op := Op.call { callee := Callee.value (Operand.func 66), args := #[Operand.tmp 32], argTypes := #[27] }, type := 58, pos := "kalman.go:118", after := #[{ on := 2, ground := Ground.data }], guard := none },
    { dst := some 34, op := Op.fieldAddr 26 (Operand.tmp 7) 0, type := 0, pos := "kalman.go:118", after := #[], guard := none },
    { dst := some 35, op := Op.load 24 (Operand.tmp 34), type := 24, pos := "kalman.go:118", after := #[{ on := 4, ground := Ground.data }], guard := none },
    { dst := some 36, op := Op.call { callee := Callee.value (Operand.func 22), args := #[Operand.tmp 35], argTypes := #[24] }, type := 58, pos := "kalman.go:118", after := #[{ on := 5, ground := Ground.data }, { on := 3, ground := Ground.chain }], guard := none },
    { dst := some 37, op := Op.buildSlice 79 2 #[(0, Operand.tmp 33), (1, Operand.tmp 36)], type := 79, pos := "kalman.go:118", after := #[{ on := 3, ground := Ground.data }, { on := 6, ground := Ground.data }], guard := none },
    { dst := some 38, op := Op.call { callee := Callee.value (Operand.func 17), args := #[Operand.tmp 30, Operand.tmp 31, Operand.tmp 37], argTypes := #[56, 24, 79] }, type := 24, pos := "kalman.go:118", after := #[{ on := 0, ground := Ground.data }, { on := 1, ground := Ground.data }, { on := 7, ground := Ground.data }, { on := 6, ground := Ground.chain }], guard := none },
    { dst := some 14, op := Op.alloc 24, type := 0, pos := "kalman.go:118", after := #[], guard := none },
    { dst := none, op := Op.store 24 (Operand.tmp 14) (Operand.tmp 38), type := 0, pos := "kalman.go:118", after := #[{ on := 9, ground := Ground.data }, { on := 8, ground := Ground.data }, { on := 8, ground := Ground.chain }, { on := 0, ground := Ground.phase }, { on := 1, ground := Ground.phase }, { on := 2, ground := Ground.phase }, { on := 3, ground := Ground.phase }, { on := 4, ground := Ground.phase }, { on := 5, ground := Ground.phase }, { on := 6, ground := Ground.phase }, { on := 7, ground := Ground.phase }, { on := 8, ground := Ground.phase }, { on := 9, ground := Ground.phase }], guard := none }]
def kc2Dst (i : Nat) : Nat := [30, 31, 32, 33, 34, 35, 36, 37, 38, 14, 1000].getD i 0
def kc2Fr (N : Nat) (D7 : Nat) (D13 : Nat) (y : Int) (u1 u2 u4 u5 u6 u8 u9 u10 u11 u12 u15 u16 u17 u18 u19 u20 u21 u22 u23 u24 u25 u26 u27 u28 u29 u39 u40 u41 u42 u43 u44 u45 u46 u47 u48 u49 u50 u51 u52 u53 u54 u55 u56 u57 u58 u59 u60 u61 u62 u63 u64 u65 u66 u67 u68 u69 u70 u71 u72 u73 u74 u75 u76 u77 u78 u79 u80 u81 : Value) (vs : Nat → Value) : Act := ⟨#[.func (.func 18) #[.pointer (some ⟨N, 0, none⟩)] #[], u1, u2, .int .i64 y, u4, u5, u6, .pointer (some ⟨D7, 0, none⟩), u8, u9, u10, u11, u12, .pointer (some ⟨D13, 0, none⟩), vs 14, u15, u16, u17, u18, u19, u20, u21, u22, u23, u24, u25, u26, u27, u28, u29, vs 30, vs 31, vs 32, vs 33, vs 34, vs 35, vs 36, vs 37, vs 38, u39, u40, u41, u42, u43, u44, u45, u46, u47, u48, u49, u50, u51, u52, u53, u54, u55, u56, u57, u58, u59, u60, u61, u62, u63, u64, u65, u66, u67, u68, u69, u70, u71, u72, u73, u74, u75, u76, u77, u78, u79, u80, u81], []⟩
def kc2T (B : Nat) (m0 : Bool) (N : Nat) (D7 : Nat) (n : Nat) (y : Int) (xo : Option Addr) (xcap : Nat) (ko : Option Addr) (kcap : Nat) (xs : List Int) (X0 X1 X2 : List Int) (b0 b1 : Bool) : Nat → Value → Value → (Nat → Prop) → World → Prop
  | 0, v, _, _, _ => v = .func (.func 18) #[.pointer (some ⟨N, 0, none⟩)] #[]
  | 1, v, _, _, _ => v = .agg #[.int .i64 n, .int .i64 1, .slice ko X0.length kcap]
  | 2, v, _, _, _ => v = .int .i64 y
  | 3, v, _, S, w => StepV B N n 1 X0 n 1 X1 b0 v S w
  | 4, v, _, _, _ => v = .pointer (some ⟨D7, 0, none⟩)
  | 5, v, _, _, _ => v = .agg #[.int .i64 n, .int .i64 1, .slice xo xs.length xcap]
  | 6, v, _, S, w => StepV B N n 1 X1 n 1 X2 b1 v S w
  | 7, v, _, S, w => TSl B [StepV B N n 1 X0 n 1 X1 b0, StepV B N n 1 X1 n 1 X2 b1] v S w
  | 8, v, _, S, w => TRes B N n 1 X2 (m0 || anyB (fun i => [b0, b1].getD i false) 2) v S w
  | 9, v, _, S, w => TPtr B v S w
  | 10, _, u, S, w => TSto B n 1 X2 u S w
  | _, _, _, _, _ => True
set_option maxRecDepth 40000 in
set_option maxHeartbeats 400000 in
theorem kc2_region {Q : Exit → Act → World → Prop} {w0 : World} {m0 : Bool} {N : Nat} {D7 : Nat} {D13 : Nat} {n : Nat} {y : Int} {xo : Option Addr} {xcap : Nat} {ko : Option Addr} {kcap : Nat} {xs : List Int} {u1 u2 u4 u5 u6 u8 u9 u10 u11 u12 u15 u16 u17 u18 u19 u20 u21 u22 u23 u24 u25 u26 u27 u28 u29 u39 u40 u41 u42 u43 u44 u45 u46 u47 u48 u49 u50 u51 u52 u53 u54 u55 u56 u57 u58 u59 u60 u61 u62 u63 u64 u65 u66 u67 u68 u69 u70 u71 u72 u73 u74 u75 u76 u77 u78 u79 u80 u81 : Value} (X0 X1 X2 : List Int) (b0 b1 : Bool) (hN : w0.heap[N]? = some (.cells #[.bool m0, .int .i64 0] 54 (0, 0))) (hpos : ∀ i, i ≤ 2 → 0 < ([X0, X1, X2].getD i []).length)
    (cX : ∀ w, Mod (fun b => b = N) w0 w → w.cell? ⟨D7, 0, none⟩ = some (.int .i64 n) ∧ w.cell? ⟨D7, 1, none⟩ = some (.int .i64 1) ∧ w.cell? ⟨D7, 2, none⟩ = some (.slice xo xs.length xcap))
    (cK : ∀ w, Mod (fun b => b = N) w0 w → w.cell? ⟨D13, 0, none⟩ = some (.int .i64 n) ∧ w.cell? ⟨D13, 1, none⟩ = some (.int .i64 1) ∧ w.cell? ⟨D13, 2, none⟩ = some (.slice ko X0.length kcap))
    (sX : Sees w0 (.slice xo xs.length xcap) xs) (oX : Old w0.heap.size N (.slice xo xs.length xcap))
    (sK : Sees w0 (.slice ko X0.length kcap) X0) (oK : Old w0.heap.size N (.slice ko X0.length kcap))
    (st0 : ∀ w A S, w.heap[A]? = some (.cells #[.int .i64 y] 27 (0, 0)) → S A → StepV w0.heap.size N n 1 X0 n 1 X1 b0 (.func (.func 100) #[] #[.pointer (some ⟨A, 0, none⟩)]) S w)
    (st1 : ∀ w A va S, w.heap[A]? = some (.cells #[.int .i64 n, .int .i64 1, va] 24 (0, 0)) → S A → Sees w va xs → OkS w0.heap.size N S va → StepV w0.heap.size N n 1 X1 n 1 X2 b1 (.func (.func 57) #[] #[.pointer (some ⟨A, 0, none⟩)]) S w)
    (hQ : ∀ vs D ao cap w, Mod (fun b => b = N) w0 w → vs 14 = .pointer (some ⟨D, 0, none⟩) → w0.heap.size ≤ D → w.heap[D]? = some (.cells #[.int .i64 n, .int .i64 1, .slice ao X2.length cap] 24 (0, 0)) → Sees w (.slice ao X2.length cap) X2 → (∀ q, (Value.slice ao X2.length cap).ownBlock = some q → w0.heap.size ≤ q) → w.heap[N]? = some (.cells #[.bool (m0 || anyB (fun i => [b0, b1].getD i false) 2), .int .i64 0] 54 (0, 0)) → Q .normal (kc2Fr N D7 D13 y u1 u2 u4 u5 u6 u8 u9 u10 u11 u12 u15 u16 u17 u18 u19 u20 u21 u22 u23 u24 u25 u26 u27 u28 u29 u39 u40 u41 u42 u43 u44 u45 u46 u47 u48 u49 u50 u51 u52 u53 u54 u55 u56 u57 u58 u59 u60 u61 u62 u63 u64 u65 u66 u67 u68 u69 u70 u71 u72 u73 u74 u75 u76 u77 u78 u79 u80 u81 vs) w) :
    (Code.region 2 kc2Ops true).wp Tryz.prog Q (kc2Fr N D7 D13 y u1 u2 u4 u5 u6 u8 u9 u10 u11 u12 u15 u16 u17 u18 u19 u20 u21 u22 u23 u24 u25 u26 u27 u28 u29 u39 u40 u41 u42 u43 u44 u45 u46 u47 u48 u49 u50 u51 u52 u53 u54 u55 u56 u57 u58 u59 u60 u61 u62 u63 u64 u65 u66 u67 u68 u69 u70 u71 u72 u73 u74 u75 u76 u77 u78 u79 u80 u81 (fun _ => undef)) w0 := by
  refine wp_region_own (by kernel_rfl) (by decide) kc2Dst (by decide) (kc2Fr N D7 D13 y u1 u2 u4 u5 u6 u8 u9 u10 u11 u12 u15 u16 u17 u18 u19 u20 u21 u22 u23 u24 u25 u26 u27 u28 u29 u39 u40 u41 u42 u43 u44 u45 u46 u47 u48 u49 u50 u51 u52 u53 u54 u55 u56 u57 u58 u59 u60 u61 u62 u63 u64 u65 u66 u67 u68 u69 u70 u71 u72 u73 u74 u75 u76 u77 u78 u79 u80 u81) (fun _ => undef) (fun i => if i = 10 then 9 else i) (by decide) (fun b => b = N) (fun q hq => by subst hq; exact lt_of_block hN) (fun i q => i = 8 ∧ q = N) (fun i q h => h.2) (fun i j q h h' => h.1.trans h'.1.symm)
    (fun s j => s = 10 ∧ j = 9) (fun s j h => by obtain ⟨rfl, rfl⟩ := h; exact ⟨by decide, by decide⟩) (fun s j h => by obtain ⟨rfl, rfl⟩ := h; decide) (kc2T w0.heap.size m0 N D7 n y xo xcap ko kcap xs X0 X1 X2 b0 b1) ?_ ?_ ?_
  · intro i v u S w w' hi h hw hw' hz hS
    have ha : Agr w0.heap.size N S w w' := agr_of hw hw' hz hS
    have hi' : i < 11 := hi
    rcases (by omega : i = 0 ∨ i = 1 ∨ i = 2 ∨ i = 3 ∨ i = 4 ∨ i = 5 ∨ i = 6 ∨ i = 7 ∨ i = 8 ∨ i = 9 ∨ i = 10) with rfl | rfl | rfl | rfl | rfl | rfl | rfl | rfl | rfl | rfl | rfl
    · exact h
    · exact h
    · exact h
    · exact StepV.stab h ha
    · exact h
    · exact h
    · exact StepV.stab h ha
    · exact TSl.stab h (fun t ht u htu => (by simp only [List.mem_cons, List.not_mem_nil, or_false] at ht; rcases ht with rfl | rfl <;> exact StepV.stab htu ha)) ha
    · exact TRes.stab h ha
    · exact TPtr.stab h ha
    · exact TSto.stab h ha
  · intro i hi vs w S hb hp hbd hwr hkl _
    have hi' : i < 11 := hi
    rcases (by omega : i = 0 ∨ i = 1 ∨ i = 2 ∨ i = 3 ∨ i = 4 ∨ i = 5 ∨ i = 6 ∨ i = 7 ∨ i = 8 ∨ i = 9 ∨ i = 10) with rfl | rfl | rfl | rfl | rfl | rfl | rfl | rfl | rfl | rfl | rfl
    · exact wpOp_of _ rfl rfl (op_move rfl rfl ⟨_, fun _ => False, rfl, rfl, fun _ h => h.elim, fun _ _ h => h.elim, Mod.refl _ _⟩)
    · exact wpOp_of _ rfl rfl (op_loadM rfl rfl (cK w hb).1 (cK w hb).2.1 (cK w hb).2.2 ⟨_, fun _ => False, rfl, rfl, fun _ h => h.elim, fun _ _ h => h.elim, Mod.refl _ _⟩)
    · exact wpOp_of _ rfl rfl (op_move rfl rfl ⟨_, fun _ => False, rfl, rfl, fun _ h => h.elim, fun _ _ h => h.elim, Mod.refl _ _⟩)
    · have h2 : vs 32 = .int .i64 y := hp 2 (by decide)
      exact wpOp_of _ rfl rfl (op_call1 enters_mscaled rfl h2 (scaled_any _ w) (by rintro e b ⟨rfl, rfl⟩; exact ⟨_, rfl, _, fun q => q = w.heap.size, rfl, st0 _ _ _ (heap_new _ _) rfl, fun q hq => .inr (.inl (by subst hq; simp)), fun h => by obtain ⟨s9, h9⟩ := h; exact absurd h9.2 (by decide), Mod.of (box_below w _)⟩))
    · exact wpOp_of _ rfl rfl (op_fieldT (i := 0) (by decide) rfl rfl ⟨_, fun _ => False, rfl, rfl, fun _ h => h.elim, fun _ _ h => h.elim, Mod.refl _ _⟩)
    · have h4 : vs 34 = .pointer (some ⟨D7, 0, none⟩) := hp 4 (by decide)
      exact wpOp_of _ rfl rfl (op_loadM rfl h4 (cX w hb).1 (cX w hb).2.1 (cX w hb).2.2 ⟨_, fun _ => False, rfl, rfl, fun _ h => h.elim, fun _ _ h => h.elim, Mod.refl _ _⟩)
    · have h5 : vs 35 = .agg #[.int .i64 n, .int .i64 1, .slice xo xs.length xcap] := hp 5 (by decide)
      exact wpOp_of _ rfl rfl (op_call1 enters_mplus rfl h5 (plus_any _ _ _ _ _ w) (by rintro e b ⟨rfl, rfl⟩; exact ⟨_, rfl, _, fun q => q = w.heap.size, rfl, st1 _ _ _ _ (heap_new _ _) rfl ((sX.mod oX hb).alloc _) (oX.ok _), fun q hq => .inr (.inl (by subst hq; simp)), fun h => by obtain ⟨s9, h9⟩ := h; exact absurd h9.2 (by decide), Mod.of (box_below w _)⟩))
    · have t0 : StepV w0.heap.size N n 1 X0 n 1 X1 b0 (vs 33) (S 3) w := hp 3 (by decide)
      obtain ⟨F0, c0, e0, _⟩ := id t0
      have t1 : StepV w0.heap.size N n 1 X1 n 1 X2 b1 (vs 36) (S 6) w := hp 6 (by decide)
      obtain ⟨F1, c1, e1, _⟩ := id t1
      have hX : ∀ j, j < 2 → ∀ q, ([S 3, S 6].getD j (fun _ => False)) q → q < w.heap.size := by
        intro j hj q hq
        rcases (by omega : j = 0 ∨ j = 1) with rfl | rfl
        · exact (hbd 3 (by decide) q hq).1
        · exact (hbd 6 (by decide) q hq).1
      have t0' : StepV w0.heap.size N n 1 X0 n 1 X1 b0 (.func (.func F0) #[] c0) (fun q => q = w.heap.size ∨ S 3 q ∨ S 6 q) (w.alloc (.cells #[.func (.func F0) #[] c0, .func (.func F1) #[] c1] 58)) := by
        have z := (t0.stab (w' := w.alloc (.cells #[.func (.func F0) #[] c0, .func (.func F1) #[] c1] 58)) ⟨(box_below w _).size, fun q hq => (box_below w _).block q (hq.elim (fun h => hX 0 (by decide) q h) (fun h => Nat.lt_of_lt_of_le h.1 hb.size))⟩).mono (S' := fun q => q = w.heap.size ∨ S 3 q ∨ S 6 q) (fun q h => .inr (.inl h))
        rw [e0] at z
        exact z
      have t1' : StepV w0.heap.size N n 1 X1 n 1 X2 b1 (.func (.func F1) #[] c1) (fun q => q = w.heap.size ∨ S 3 q ∨ S 6 q) (w.alloc (.cells #[.func (.func F0) #[] c0, .func (.func F1) #[] c1] 58)) := by
        have z := (t1.stab (w' := w.alloc (.cells #[.func (.func F0) #[] c0, .func (.func F1) #[] c1] 58)) ⟨(box_below w _).size, fun q hq => (box_below w _).block q (hq.elim (fun h => hX 1 (by decide) q h) (fun h => Nat.lt_of_lt_of_le h.1 hb.size))⟩).mono (S' := fun q => q = w.heap.size ∨ S 3 q ∨ S 6 q) (fun q h => .inr (.inr (h)))
        rw [e1] at z
        exact z
      have hTS : ∀ (i : Nat) (t : Value → (Nat → Prop) → World → Prop) (u : Value), [StepV w0.heap.size N n 1 X0 n 1 X1 b0, StepV w0.heap.size N n 1 X1 n 1 X2 b1][i]? = some t → [.func (.func F0) #[] c0, .func (.func F1) #[] c1][i]? = some u → t u (fun q => q = w.heap.size ∨ S 3 q ∨ S 6 q) (w.alloc (.cells #[.func (.func F0) #[] c0, .func (.func F1) #[] c1] 58)) := by
        intro i t u ht hu
        have hi : i < 2 := by have := (List.getElem?_eq_some_iff.1 ht).1; simpa using this
        rcases (by omega : i = 0 ∨ i = 1) with rfl | rfl
        · cases ht; cases hu; exact t0'
        · cases ht; cases hu; exact t1'
      exact wpOp_of _ rfl rfl (op_slice2 rfl e0 e1 ⟨_, fun q => q = w.heap.size ∨ S 3 q ∨ S 6 q, rfl, ⟨w.heap.size, [.func (.func F0) #[] c0, .func (.func F1) #[] c1], rfl, .inl rfl, hb.size, rfl, heap_new _ _, hTS⟩, fun q hq => hq.elim (fun h => .inr (.inl (by subst h; simp))) (fun h => h.elim (fun h => .inl ⟨3, by decide, h⟩) (fun h => .inl ⟨6, by decide, h⟩)), fun h => (by obtain ⟨s9, h9⟩ := h; exact absurd h9.2 (by decide)), Mod.of (box_below w _)⟩)
    · have h0 : vs 30 = .func (.func 18) #[.pointer (some ⟨N, 0, none⟩)] #[] := hp 0 (by decide)
      have h1 : vs 31 = .agg #[.int .i64 n, .int .i64 1, .slice ko X0.length kcap] := hp 1 (by decide)
      have hT : TSl w0.heap.size [StepV w0.heap.size N n 1 X0 n 1 X1 b0, StepV w0.heap.size N n 1 X1 n 1 X2 b1] (vs 37) (S 7) w := hp 7 (by decide)
      have hn0 : w.heap[N]? = some (.cells #[.bool m0, .int .i64 0] 54 (0, 0)) := (hwr N rfl (fun j h => ⟨by rw [h.1]; decide, .inl h.1⟩)).trans hN
      exact wpOp_of _ rfl rfl (op_call3 enters_kreck rfl h0 h1 rfl (reck_call 2 (by decide) (by decide) (fun i => [n, n, n].getD i 0) (fun i => [1, 1, 1].getD i 0) (fun i => [X0, X1, X2].getD i []) (fun i => [b0, b1].getD i false) N m0 w0 w _ _ (S 7) hb hn0 (hT) (fun b hSb => ⟨(hbd 7 (by decide) b hSb).1, fun e => (hbd 7 (by decide) b hSb).2 ⟨rfl, e⟩⟩) hpos (sK.mod oK hb) (fun b hb' => (oK b hb').2)) (by rintro e b ⟨x, S', rfl, hR, hS', hM⟩; exact ⟨_, rfl, _, S', rfl, hR, fun q hq => (hS' q hq).elim (fun h => .inr (.inl h)) (fun h => .inr (.inr ⟨rfl, h⟩)), fun h => by obtain ⟨s9, h9⟩ := h; exact absurd h9.2 (by decide), hM.mono fun q _ hq => .inl ⟨rfl, hq⟩⟩))
    · exact wpOp_of _ rfl rfl (op_alloc24 rfl ⟨_, fun b => b = w.heap.size, rfl, ⟨_, rfl, rfl, hb.size, _, _, _, heap_new _ _⟩, fun b h => .inr (.inl (by subst h; simp)), fun _ b h => .inl (by omega), Mod.of (box_below w _)⟩)
    · obtain ⟨D, hD, hSD, hBD, x, y, z, hbl⟩ : TPtr w0.heap.size (vs 14) (S 9) w := hp 9 (by decide)
      obtain ⟨⟨ao, cap, hf, hs, hso⟩, _⟩ : TRes w0.heap.size N n 1 X2 (m0 || anyB (fun i => [b0, b1].getD i false) 2) (vs 38) (S 8) w := hp 8 (by decide)
      have hne : ∀ q, (Value.slice ao X2.length cap).ownBlock = some q → q ≠ D := fun q hq e => hkl 9 ⟨rfl, rfl⟩ 8 (by decide) (by decide) D hSD (e ▸ (hso q hq).1)
      refine wpOp_of _ rfl rfl (op_store24 rfl rfl hD hf hbl ?_)
      refine ⟨undef, fun q => q = D ∨ S 8 q, rfl, ⟨D, ao, cap, hD, .inl rfl, hBD, put_mat hbl, ((hs.set' (a := ⟨D, 0, none⟩) hne _).set' (a := ⟨D, 1, none⟩) hne _).set' (a := ⟨D, 2, none⟩) hne _, fun q hq => ⟨.inr (hso q hq).1, (hso q hq).2⟩⟩, fun q hq => hq.elim (fun h => .inl ⟨9, by decide, h ▸ hSD⟩) (fun h => .inl ⟨8, by decide, h⟩), fun h => by obtain ⟨s9, h9⟩ := h; exact absurd h9.2 (by decide), ?_⟩
      refine ⟨rfl, rfl, rfl, by simp [World.setCell], fun q hq hq' => ?_⟩
      have hqD : q ≠ D := fun e => hq' (.inr ⟨9, ⟨rfl, rfl⟩, e ▸ hSD⟩)
      rw [Below.heap_setCell _ _ _ _ hqD, Below.heap_setCell _ _ _ _ hqD, Below.heap_setCell _ _ _ _ hqD]
  · intro vs w S hb hT
    obtain ⟨D, ao, cap, h1, _, h3, h4, h5, h6⟩ : TSto w0.heap.size n 1 X2 (vs 14) (S 10) w := hT 10 (by decide) (fun s h => by omega)
    obtain ⟨_, _, h7⟩ : TRes w0.heap.size N n 1 X2 (m0 || anyB (fun i => [b0, b1].getD i false) 2) (vs 38) (S 8) w := hT 8 (by decide) (fun s h => by omega)
    exact hQ vs D ao cap w hb h1 h3 h4 h5 (fun q hq => (h6 q hq).2) h7
end Go.Proofs.YtiniobcknmaigaaGreat
