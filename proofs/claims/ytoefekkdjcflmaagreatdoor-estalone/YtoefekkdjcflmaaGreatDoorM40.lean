/- Parts of the proof. -/
import Derived.Deep.MidRow
import Derived.Test.YtoefekkdjcflmaaGreatDoorM29
namespace Go.Proofs.YtoefekkdjcflmaaGreatDoor.Et
open Go.RowKit Go.Sort Go.Proofs.YtoefekkdjcflmaaGreatDoor.Qm
set_option linter.unusedVariables false
theorem enters_places : ∀ (args : Array Value) (a : World), Sem.run Tryz.prog (callFunc 34 args) a = Result.ok (Next.enter 34 args) a := by
  intro args a; simp [callFunc, Tryz.func34, go_sem]; rfl
theorem mod_setCells {b : Nat} : ∀ (vs : List Value) (o : Nat) (w : World), Mod (fun q => q = b) w (w.setCells b o vs)
  | [], _, _ => Mod.refl _ _
  | v :: vs, o, w => (mod_set (v := v)).trans (mod_setCells vs (o + 1) _)
theorem Wk.setCells {n b : Nat} : ∀ (vs : List Value) (o : Nat) (w : World) (f : Nat → Value), Wk n w b f → Wk n (w.setCells b o vs) b (fun k => if o ≤ k ∧ k < o + vs.length then vs.getD (k - o) undef else f k)
  | [], o, w, f, h => by
    have e : (fun k => if o ≤ k ∧ k < o + ([] : List Value).length then ([] : List Value).getD (k - o) undef else f k) = f := by
      funext k
      rw [if_neg (fun h => by have h2 : k < o + 0 := h.2; omega)]
    rw [e]; exact h
  | v :: vs, o, w, f, h => by
    have h1 := Wk.setCells vs (o + 1) _ _ (h.set o v)
    obtain ⟨cs, t, g1, g2, g3⟩ := h1
    refine ⟨cs, t, g1, g2, fun k hk => ?_⟩
    rw [g3 k hk]
    congr 1
    show (if o + 1 ≤ k ∧ k < o + 1 + vs.length then vs.getD (k - (o + 1)) undef else up f o v k) = (if o ≤ k ∧ k < o + (v :: vs).length then (v :: vs).getD (k - o) undef else f k)
    by_cases e : k = o
    · subst e
      rw [if_neg (fun h => by omega), if_pos ⟨Nat.le_refl _, by simp⟩, up_at]
      simp
    · by_cases hr : o + 1 ≤ k ∧ k < o + 1 + vs.length
      · rw [if_pos hr, if_pos ⟨by omega, by simp only [List.length_cons]; omega⟩]
        have : k - o = (k - (o + 1)) + 1 := by omega
        rw [this]; rfl
      · rw [if_neg hr, if_neg (fun h => hr ⟨by omega, by have h2 := h.2; simp only [List.length_cons] at h2; omega⟩), up_ne e]
theorem op_stN {a : Act} {w : World} {K : Act → World → Prop} {Q : Exit → Act → World → Prop} {o : Oper} {p f b : Nat} {t : TypeId} {cs : Array Value} (hd : o.dst = none) (hop : o.op = Op.store t (Operand.tmp p) (Operand.tmp f)) (hp : a.tmps[p]?.getD undef = .pointer (some ⟨b, 0, none⟩)) (hf : a.tmps[f]?.getD undef = .agg cs)
    (ht : w.there b 0 cs.size) (hi : (Tryz.prog.info? t).map (·.size) = some cs.size) (h1 : cs.all (·.oneCell') = true) (hk : K a (w.setCells b 0 cs.toList)) : o.wp Tryz.prog a w K Q := by
  have e0 : a.eval (Operand.tmp p) = .pointer (some ⟨b, 0, none⟩) := by simp [go_sem, hp]
  have e1 : a.eval (Operand.tmp f) = .agg cs := by simp [go_sem, hf]
  have hr := run_storeAt_mid (P := Tryz.prog) w b 0 t cs ht hi h1
  unfold Oper.wp execOp
  simp only [hop, e0, e1, Sem.run_bind, hr, Result.andThen_ok, Sem.run_pure]
  simpa [Oper.upon, hd, Act.put] using hk
def st9Ops : Array Oper := #[
 ⟨some 38, .fieldAddr 66 (.tmp 8) 2, 0, "est.go:70", #[], none⟩,
 ⟨some 39, .load 35 (.tmp 38), 35, "est.go:70", #[eD 0], none⟩,
 ⟨some 40, .fieldAddr 66 (.tmp 8) 2, 0, "est.go:70", #[], none⟩,
 ⟨some 41, .load 35 (.tmp 40), 35, "est.go:70", #[eD 2], none⟩,
 ⟨some 42, .call ⟨.value (.func 34), #[.tmp 41], #[35]⟩, 37, "est.go:70", #[eD 3], none⟩,
 ⟨none, .store 35 (.tmp 6) (.tmp 39), 0, "est.go:70", #[eD 1, eC 4, eP 0, eP 1, ⟨2, .textOnly .lateStores⟩, ⟨3, .textOnly .lateStores⟩, ⟨4, .textOnly .lateStoresUnsure⟩], none⟩,
 ⟨none, .store 37 (.tmp 7) (.tmp 42), 0, "est.go:70", #[eD 4, eC 5, eP 0, eP 1, eP 2, eP 3, eP 4, eP 5], none⟩]
def st9Dst (i : Nat) : Nat := [38, 39, 40, 41, 42, 1005, 1006].getD i 0
def st9Fr (W : Nat) (D6 : Nat) (D7 : Nat) (u0 u1 u2 u3 u4 u5 u9 u10 u11 u12 u13 u14 u15 u16 u17 u18 u19 u20 u21 u22 u23 u24 u25 u26 u27 u28 u29 u30 u31 u32 u33 u34 u35 u36 u37 : Value) (vs : Nat → Value) : Act := ⟨#[u0, u1, u2, u3, u4, u5, .pointer (some ⟨D6, 0, none⟩), .pointer (some ⟨D7, 0, none⟩), .pointer (some ⟨W, 0, none⟩), u9, u10, u11, u12, u13, u14, u15, u16, u17, u18, u19, u20, u21, u22, u23, u24, u25, u26, u27, u28, u29, u30, u31, u32, u33, u34, u35, u36, u37, vs 38, vs 39, vs 40, vs 41, vs 42], []⟩
def st9T (W : Nat) (tu : Nat → Int) (r : Nat → Int) (c : Nat → Int) (r' : Nat → Int) (c' : Nat → Int) (xo : Nat → Option Addr) (xn : Nat → Nat) (xc : Nat → Nat) (po : Nat → Option Addr) (pn : Nat → Nat) (pc : Nat → Nat) (st : Int) (co : Int) (off : Nat → Int) (sat : Bool) (x0 : Int) (x1 : Int) (x2 : Int) : Nat → Value → Value → (Nat → Prop) → World → Prop
  | 0, v, _, _, _ => v = .pointer (some ⟨W, 19, none⟩)
  | 1, v, _, _, _ => v = .agg #[.int .i64 (tu 0), .int .i64 (tu 1), .int .i64 (tu 2), .int .i64 (tu 3), .int .i64 (r 0), .int .i64 (c 0), .slice (xo 0) (xn 0) (xc 0), .int .i64 (r' 0), .int .i64 (c' 0), .slice (po 0) (pn 0) (pc 0), .int .i64 (r 1), .int .i64 (c 1), .slice (xo 1) (xn 1) (xc 1), .int .i64 (r' 1), .int .i64 (c' 1), .slice (po 1) (pn 1) (pc 1), .int .i64 (r 2), .int .i64 (c 2), .slice (xo 2) (xn 2) (xc 2), .int .i64 (r' 2), .int .i64 (c' 2), .slice (po 2) (pn 2) (pc 2), .int .i64 st, .int .i64 co, .int .i64 (off 0), .int .i64 (off 1), .int .i64 (off 2), .int .i64 (off 3), .bool sat]
  | 2, v, _, _, _ => v = .pointer (some ⟨W, 19, none⟩)
  | 3, v, _, _, _ => v = .agg #[.int .i64 (tu 0), .int .i64 (tu 1), .int .i64 (tu 2), .int .i64 (tu 3), .int .i64 (r 0), .int .i64 (c 0), .slice (xo 0) (xn 0) (xc 0), .int .i64 (r' 0), .int .i64 (c' 0), .slice (po 0) (pn 0) (pc 0), .int .i64 (r 1), .int .i64 (c 1), .slice (xo 1) (xn 1) (xc 1), .int .i64 (r' 1), .int .i64 (c' 1), .slice (po 1) (pn 1) (pc 1), .int .i64 (r 2), .int .i64 (c 2), .slice (xo 2) (xn 2) (xc 2), .int .i64 (r' 2), .int .i64 (c' 2), .slice (po 2) (pn 2) (pc 2), .int .i64 st, .int .i64 co, .int .i64 (off 0), .int .i64 (off 1), .int .i64 (off 2), .int .i64 (off 3), .bool sat]
  | 4, v, _, _, _ => v = .agg #[.int .i64 x0, .int .i64 x1, .int .i64 x2]
  | 5, _, _, _, _ => True
  | 6, _, _, _, _ => True
  | _, _, _, _, _ => True
set_option maxRecDepth 40000 in
set_option maxHeartbeats 1600000 in
theorem st9_region {Q : Exit → Act → World → Prop} {w0 : World} {W : Nat} {D6 : Nat} {D7 : Nat} {tu : Nat → Int} {r : Nat → Int} {c : Nat → Int} {r' : Nat → Int} {c' : Nat → Int} {xo : Nat → Option Addr} {xn : Nat → Nat} {xc : Nat → Nat} {po : Nat → Option Addr} {pn : Nat → Nat} {pc : Nat → Nat} {st : Int} {co : Int} {off : Nat → Int} {sat : Bool} {x0 : Int} {x1 : Int} {x2 : Int} {J : Bool → Bool → World → Prop} {u0 u1 u2 u3 u4 u5 u9 u10 u11 u12 u13 u14 u15 u16 u17 u18 u19 u20 u21 u22 u23 u24 u25 u26 u27 u28 u29 u30 u31 u32 u33 u34 u35 u36 u37 : Value}
    (hsh : ∀ k, k = D6 ∨ k = D7 → k < w0.heap.size) (hJ0 : J false false w0.drew) (hJs : ∀ b b' w w', J b b' w → Mod (fun q => w0.heap.size ≤ q) w w' → J b b' w')
    (hr : ∀ w, Mod (fun k => k = D6 ∨ k = D7) w0 w → ∀ j v, ([.int .i64 (tu 0), .int .i64 (tu 1), .int .i64 (tu 2), .int .i64 (tu 3), .int .i64 (r 0), .int .i64 (c 0), .slice (xo 0) (xn 0) (xc 0), .int .i64 (r' 0), .int .i64 (c' 0), .slice (po 0) (pn 0) (pc 0), .int .i64 (r 1), .int .i64 (c 1), .slice (xo 1) (xn 1) (xc 1), .int .i64 (r' 1), .int .i64 (c' 1), .slice (po 1) (pn 1) (pc 1), .int .i64 (r 2), .int .i64 (c 2), .slice (xo 2) (xn 2) (xc 2), .int .i64 (r' 2), .int .i64 (c' 2), .slice (po 2) (pn 2) (pc 2), .int .i64 st, .int .i64 co, .int .i64 (off 0), .int .i64 (off 1), .int .i64 (off 2), .int .i64 (off 3), .bool sat] : List Value)[j]? = some v → w.cell? ⟨W, 19 + j, none⟩ = some v)
    (hpl : ∀ w, J false false w → Mod (fun k => k = D6 ∨ k = D7) w0 w → Calls Tryz.prog 34 #[.agg #[.int .i64 (tu 0), .int .i64 (tu 1), .int .i64 (tu 2), .int .i64 (tu 3), .int .i64 (r 0), .int .i64 (c 0), .slice (xo 0) (xn 0) (xc 0), .int .i64 (r' 0), .int .i64 (c' 0), .slice (po 0) (pn 0) (pc 0), .int .i64 (r 1), .int .i64 (c 1), .slice (xo 1) (xn 1) (xc 1), .int .i64 (r' 1), .int .i64 (c' 1), .slice (po 1) (pn 1) (pc 1), .int .i64 (r 2), .int .i64 (c 2), .slice (xo 2) (xn 2) (xc 2), .int .i64 (r' 2), .int .i64 (c' 2), .slice (po 2) (pn 2) (pc 2), .int .i64 st, .int .i64 co, .int .i64 (off 0), .int .i64 (off 1), .int .i64 (off 2), .int .i64 (off 3), .bool sat]] w fun e b => e = .returned (.agg #[.int .i64 x0, .int .i64 x1, .int .i64 x2]) ∧ Below w.heap.size w b)
    (hs5 : ∀ w, J false false w → w.there D6 0 29 ∧ J true false (w.setCells D6 0 [.int .i64 (tu 0), .int .i64 (tu 1), .int .i64 (tu 2), .int .i64 (tu 3), .int .i64 (r 0), .int .i64 (c 0), .slice (xo 0) (xn 0) (xc 0), .int .i64 (r' 0), .int .i64 (c' 0), .slice (po 0) (pn 0) (pc 0), .int .i64 (r 1), .int .i64 (c 1), .slice (xo 1) (xn 1) (xc 1), .int .i64 (r' 1), .int .i64 (c' 1), .slice (po 1) (pn 1) (pc 1), .int .i64 (r 2), .int .i64 (c 2), .slice (xo 2) (xn 2) (xc 2), .int .i64 (r' 2), .int .i64 (c' 2), .slice (po 2) (pn 2) (pc 2), .int .i64 st, .int .i64 co, .int .i64 (off 0), .int .i64 (off 1), .int .i64 (off 2), .int .i64 (off 3), .bool sat]))
    (hs6 : ∀ w, J true false w → (∃ y0 y1 y2, w.cell? ⟨D7, 0, none⟩ = some y0 ∧ w.cell? ⟨D7, 0 + 1, none⟩ = some y1 ∧ w.cell? ⟨D7, 0 + 2, none⟩ = some y2) ∧ (∀ k, w.frozen? ⟨D7, k, none⟩ = false) ∧ J true true (((w.setCell ⟨D7, 0, none⟩ (.int .i64 x0)).setCell ⟨D7, 0 + 1, none⟩ (.int .i64 x1)).setCell ⟨D7, 0 + 2, none⟩ (.int .i64 x2)))
    (hQ : ∀ vs  w, Mod (fun k => k = D6 ∨ k = D7) w0 w → J true true w → Q .normal (st9Fr W D6 D7 u0 u1 u2 u3 u4 u5 u9 u10 u11 u12 u13 u14 u15 u16 u17 u18 u19 u20 u21 u22 u23 u24 u25 u26 u27 u28 u29 u30 u31 u32 u33 u34 u35 u36 u37 vs) w) :
    (Code.region 9 st9Ops true).wp Tryz.prog Q (st9Fr W D6 D7 u0 u1 u2 u3 u4 u5 u9 u10 u11 u12 u13 u14 u15 u16 u17 u18 u19 u20 u21 u22 u23 u24 u25 u26 u27 u28 u29 u30 u31 u32 u33 u34 u35 u36 u37 (fun _ => undef)) w0 := by
  refine wp_region_sh (by kernel_rfl) (by decide) st9Dst (by decide) (st9Fr W D6 D7 u0 u1 u2 u3 u4 u5 u9 u10 u11 u12 u13 u14 u15 u16 u17 u18 u19 u20 u21 u22 u23 u24 u25 u26 u27 u28 u29 u30 u31 u32 u33 u34 u35 u36 u37) (fun _ => undef) (fun i => i) (by decide) (fun k => k = D6 ∨ k = D7) hsh (fun L w => J (L 5) (L 6) w) hJ0
    (fun _ _ => False) (fun s j h => h.elim) (fun s s2 j h => h.elim) (st9T W tu r c r' c' xo xn xc po pn pc st co off sat x0 x1 x2) ?_ ?_ ?_
  · intro i v u S w w' hi h hw hw' hz hS
    have hi' : i < 7 := hi
    rcases (by omega : i = 0 ∨ i = 1 ∨ i = 2 ∨ i = 3 ∨ i = 4 ∨ i = 5 ∨ i = 6) with rfl | rfl | rfl | rfl | rfl | rfl | rfl
    · exact h
    · exact h
    · exact h
    · exact h
    · exact h
    · exact h
    · exact h
  · intro i hi L vs w S hb hI hL hpr hsu hp hbd hkl _
    have hi' : i < 7 := hi
    rcases (by omega : i = 0 ∨ i = 1 ∨ i = 2 ∨ i = 3 ∨ i = 4 ∨ i = 5 ∨ i = 6) with rfl | rfl | rfl | rfl | rfl | rfl | rfl
    · exact wpOp_of _ rfl rfl (op_fwork2 rfl rfl ⟨_, fun _ => False, rfl, rfl, fun _ h => h.elim, fun h => h.elim fun _ h9 => h9.elim, Mod.refl _ _, hI⟩)
    · have h0 : vs 38 = .pointer (some ⟨W, 19, none⟩) := hp 0 (by decide) (fun _ h9 => h9.elim)
      exact wpOp_of _ rfl rfl (op_ldN (cs := [.int .i64 (tu 0), .int .i64 (tu 1), .int .i64 (tu 2), .int .i64 (tu 3), .int .i64 (r 0), .int .i64 (c 0), .slice (xo 0) (xn 0) (xc 0), .int .i64 (r' 0), .int .i64 (c' 0), .slice (po 0) (pn 0) (pc 0), .int .i64 (r 1), .int .i64 (c 1), .slice (xo 1) (xn 1) (xc 1), .int .i64 (r' 1), .int .i64 (c' 1), .slice (po 1) (pn 1) (pc 1), .int .i64 (r 2), .int .i64 (c 2), .slice (xo 2) (xn 2) (xc 2), .int .i64 (r' 2), .int .i64 (c' 2), .slice (po 2) (pn 2) (pc 2), .int .i64 st, .int .i64 co, .int .i64 (off 0), .int .i64 (off 1), .int .i64 (off 2), .int .i64 (off 3), .bool sat]) rfl h0 (ag_Est _) (sz_Est _) (hr w hb) ⟨_, fun _ => False, rfl, rfl, fun _ h => h.elim, fun h => h.elim fun _ h9 => h9.elim, Mod.refl _ _, hI⟩)
    · exact wpOp_of _ rfl rfl (op_fwork2 rfl rfl ⟨_, fun _ => False, rfl, rfl, fun _ h => h.elim, fun h => h.elim fun _ h9 => h9.elim, Mod.refl _ _, hI⟩)
    · have h2 : vs 40 = .pointer (some ⟨W, 19, none⟩) := hp 2 (by decide) (fun _ h9 => h9.elim)
      exact wpOp_of _ rfl rfl (op_ldN (cs := [.int .i64 (tu 0), .int .i64 (tu 1), .int .i64 (tu 2), .int .i64 (tu 3), .int .i64 (r 0), .int .i64 (c 0), .slice (xo 0) (xn 0) (xc 0), .int .i64 (r' 0), .int .i64 (c' 0), .slice (po 0) (pn 0) (pc 0), .int .i64 (r 1), .int .i64 (c 1), .slice (xo 1) (xn 1) (xc 1), .int .i64 (r' 1), .int .i64 (c' 1), .slice (po 1) (pn 1) (pc 1), .int .i64 (r 2), .int .i64 (c 2), .slice (xo 2) (xn 2) (xc 2), .int .i64 (r' 2), .int .i64 (c' 2), .slice (po 2) (pn 2) (pc 2), .int .i64 st, .int .i64 co, .int .i64 (off 0), .int .i64 (off 1), .int .i64 (off 2), .int .i64 (off 3), .bool sat]) rfl h2 (ag_Est _) (sz_Est _) (hr w hb) ⟨_, fun _ => False, rfl, rfl, fun _ h => h.elim, fun h => h.elim fun _ h9 => h9.elim, Mod.refl _ _, hI⟩)
    · have h3 : vs 41 = .agg #[.int .i64 (tu 0), .int .i64 (tu 1), .int .i64 (tu 2), .int .i64 (tu 3), .int .i64 (r 0), .int .i64 (c 0), .slice (xo 0) (xn 0) (xc 0), .int .i64 (r' 0), .int .i64 (c' 0), .slice (po 0) (pn 0) (pc 0), .int .i64 (r 1), .int .i64 (c 1), .slice (xo 1) (xn 1) (xc 1), .int .i64 (r' 1), .int .i64 (c' 1), .slice (po 1) (pn 1) (pc 1), .int .i64 (r 2), .int .i64 (c 2), .slice (xo 2) (xn 2) (xc 2), .int .i64 (r' 2), .int .i64 (c' 2), .slice (po 2) (pn 2) (pc 2), .int .i64 st, .int .i64 co, .int .i64 (off 0), .int .i64 (off 1), .int .i64 (off 2), .int .i64 (off 3), .bool sat] := hp 3 (by decide) (fun _ h9 => h9.elim)
      have hJ : J false false w := by
        have h : J (L 5) (L 6) w := hI
        rw [hsu 5 (by decide) (by decide), hsu 6 (by decide) (by decide)] at h; exact h
      exact wpOp_of _ rfl rfl (op_call_t enters_places rfl h3 (hpl w hJ hb) (by rintro e b ⟨rfl, b'⟩; exact ⟨_, rfl, _, fun _ => False, rfl, rfl, fun _ h => h.elim, fun h => h.elim fun _ h9 => h9.elim, Mod.of b', hJs _ _ _ _ hI (Mod.of b')⟩))
    · have h1 : vs 39 = .agg #[.int .i64 (tu 0), .int .i64 (tu 1), .int .i64 (tu 2), .int .i64 (tu 3), .int .i64 (r 0), .int .i64 (c 0), .slice (xo 0) (xn 0) (xc 0), .int .i64 (r' 0), .int .i64 (c' 0), .slice (po 0) (pn 0) (pc 0), .int .i64 (r 1), .int .i64 (c 1), .slice (xo 1) (xn 1) (xc 1), .int .i64 (r' 1), .int .i64 (c' 1), .slice (po 1) (pn 1) (pc 1), .int .i64 (r 2), .int .i64 (c 2), .slice (xo 2) (xn 2) (xc 2), .int .i64 (r' 2), .int .i64 (c' 2), .slice (po 2) (pn 2) (pc 2), .int .i64 st, .int .i64 co, .int .i64 (off 0), .int .i64 (off 1), .int .i64 (off 2), .int .i64 (off 3), .bool sat] := hp 1 (by decide) (fun _ h9 => h9.elim)
      have hJ : J false false w := by
        have h : J (L 5) (L 6) w := hI
        rw [hL, hsu 6 (by decide) (by decide)] at h; exact h
      obtain ⟨et, ej⟩ := hs5 w hJ
      exact wpOp_of _ rfl rfl (op_stN rfl rfl rfl h1 et (by kernel_rfl) (by kernel_rfl) ⟨undef, fun _ => False, rfl, trivial, fun _ h => h.elim, fun h => h.elim fun _ h9 => h9.elim, (mod_setCells _ _ _).mono fun q _ hq => .inl (.inl hq), (by show J true (L 6) _; rw [hsu 6 (by decide) (by decide)]; exact ej)⟩)
    · have h4 : vs 42 = .agg #[.int .i64 x0, .int .i64 x1, .int .i64 x2] := hp 4 (by decide) (fun _ h9 => h9.elim)
      have hJ : J true false w := by
        have h : J (L 5) (L 6) w := hI
        rw [hL, hpr 5 (by decide)] at h; exact h
      obtain ⟨⟨y0, y1, y2, e0, e1, e2⟩, ef, ej⟩ := hs6 w hJ
      exact wpOp_of _ rfl rfl (op_stVecAt rfl rfl rfl h4 e0 e1 e2 (ef _) (ef _) (ef _) ⟨undef, fun _ => False, rfl, trivial, fun _ h => h.elim, fun h => h.elim fun _ h9 => h9.elim, ((mod_set.trans mod_set).trans mod_set).mono fun q _ hq => .inl (.inr hq), (by show J (L 5) true _; rw [hpr 5 (by decide)]; exact ej)⟩)
  · intro vs w S L hall hI hb hSz hT
    have hIe : J true true w := by
      have hI' : J (L 5) (L 6) w := hI
      rw [hall 5 (by decide), hall 6 (by decide)] at hI'
      exact hI'
    exact hQ vs  w hb hIe
theorem run_ldV {w : World} {b : Nat} {t : TypeId} {cs : List Value} (ha : (isAgg t).run Tryz.prog w = .ok true w) (hz : (sizeOf t).run Tryz.prog w = .ok cs.length w) (hc : ∀ j v, cs[j]? = some v → w.cell? ⟨b, 0 + j, none⟩ = some v) : (loadVar t ⟨b, 0, none⟩).run Tryz.prog w = .ok (.agg cs.toArray) w := by
  have hl := run_loadCells_list (P := Tryz.prog) w ⟨b, 0, none⟩ cs (fun j v h => by
    have e : (⟨b, 0, none⟩ : Addr).add j = ⟨b, 0 + j, none⟩ := by unfold Addr.add; split <;> simp_all
    rw [e]; exact hc j v h)
  simp only [loadVar, Sem.run_bind, ha, hz, hl, Result.andThen_ok, Sem.run_pure, if_true]
theorem results_two {w : World} {tmps : Array Value} {D6 D7 : Nat} {cs xs : List Value} (h6 : tmps.getD 6 undef = .pointer (some ⟨D6, 0, none⟩)) (h7 : tmps.getD 7 undef = .pointer (some ⟨D7, 0, none⟩)) (l6 : cs.length = 29) (l7 : xs.length = 3)
    (c6 : ∀ j v, cs[j]? = some v → w.cell? ⟨D6, 0 + j, none⟩ = some v) (c7 : ∀ j v, xs[j]? = some v → w.cell? ⟨D7, 0 + j, none⟩ = some v) : (results Tryz.f14 tmps).run Tryz.prog w = .ok (.tuple #[.agg cs.toArray, .agg xs.toArray]) w := by
  have e1 := run_ldV (b := D6) (ag_Est w) (by rw [l6]; exact sz_Est w) c6
  have e2 := run_ldV (b := D7) (ag_Vec w) (by rw [l7]; exact sz_Vec w) c7
  have hr : Tryz.f14.results = #[ResultVar.cell 6 35, ResultVar.cell 7 37] := Tryz.results14
  unfold results
  rw [hr]
  simp only [Array.mapM_eq_mapM_toList, List.mapM_cons, List.mapM_nil, Sem.run_bind, Sem.run_pure, Sem.run_map, h6, h7, asAddr, e1, e2, Result.andThen_ok]
  rfl
def J9 (D6 D7 : Nat) (es : List Value) (x : Nat → Int) (b b' : Bool) (v : World) : Prop := (∃ f, Wk 29 v D6 f ∧ (b = true → ∀ k, k < 29 → f k = es.getD k undef)) ∧ ∃ f, Wk 3 v D7 f ∧ (b' = true → ∀ k, k < 3 → f k = .int .i64 (x k))
theorem J9.more {D6 D7 B : Nat} {es : List Value} {x : Nat → Int} (h6 : D6 < B) (h7 : D7 < B) (b b' : Bool) (v v' : World) (h : J9 D6 D7 es x b b' v) (hm : Mod (fun q => B ≤ q) v v') : J9 D6 D7 es x b b' v' := by
  obtain ⟨⟨f, a1, a2⟩, g, b1, b2⟩ := h
  exact ⟨⟨f, a1.mod hm (by omega), a2⟩, g, b1.mod hm (by omega), b2⟩
theorem J9.s5 {D6 D7 : Nat} {es : List Value} {x : Nat → Int} (hl : es.length = 29) (hne : D7 ≠ D6) (v : World) (h : J9 D6 D7 es x false false v) : v.there D6 0 29 ∧ J9 D6 D7 es x true false (v.setCells D6 0 es) := by
  obtain ⟨⟨f, a1, _⟩, g, b1, _⟩ := h
  refine ⟨fun j hj => ⟨?_, a1.frozen _⟩, ⟨_, a1.setCells es 0, fun _ k hk => ?_⟩, g, b1.mod (mod_setCells _ _ _) hne, fun h => by cases h⟩
  · rw [Nat.zero_add, a1.cell hj rfl]; rfl
  · show (if 0 ≤ k ∧ k < 0 + es.length then es.getD (k - 0) undef else f k) = _
    rw [if_pos ⟨Nat.zero_le _, by omega⟩, Nat.sub_zero]
theorem J9.s6 {D6 D7 : Nat} {es : List Value} {x : Nat → Int} (hne : D6 ≠ D7) (v : World) (h : J9 D6 D7 es x true false v) : (∃ y0 y1 y2, v.cell? ⟨D7, 0, none⟩ = some y0 ∧ v.cell? ⟨D7, 0 + 1, none⟩ = some y1 ∧ v.cell? ⟨D7, 0 + 2, none⟩ = some y2) ∧ (∀ k, v.frozen? ⟨D7, k, none⟩ = false) ∧
    J9 D6 D7 es x true true (((v.setCell ⟨D7, 0, none⟩ (.int .i64 (x 0))).setCell ⟨D7, 0 + 1, none⟩ (.int .i64 (x 1))).setCell ⟨D7, 0 + 2, none⟩ (.int .i64 (x 2))) := by
  obtain ⟨⟨f, a1, a2⟩, g, b1, _⟩ := h
  refine ⟨⟨_, _, _, b1.cell (by decide) rfl, b1.cell (by decide) rfl, b1.cell (by decide) rfl⟩, fun k => b1.frozen k, ⟨f, a1.mod ((mod_set.trans mod_set).trans mod_set) hne, a2⟩, _, ((b1.set 0 _).set 1 _).set 2 _, fun _ k hk => ?_⟩
  rcases (by omega : k = 0 ∨ k = 1 ∨ k = 2) with rfl | rfl | rfl <;> rfl
theorem J9.cells {D6 D7 : Nat} {es : List Value} {x : Nat → Int} (hl : es.length = 29) (v : World) (h : J9 D6 D7 es x true true v) : (∀ j u, es[j]? = some u → v.cell? ⟨D6, 0 + j, none⟩ = some u) ∧ ∀ j u, ([.int .i64 (x 0), .int .i64 (x 1), .int .i64 (x 2)] : List Value)[j]? = some u → v.cell? ⟨D7, 0 + j, none⟩ = some u := by
  obtain ⟨⟨f, a1, a2⟩, g, b1, b2⟩ := h
  refine ⟨fun j u hu => ?_, fun j u hu => ?_⟩
  · have hj : j < 29 := by have := (List.getElem?_eq_some_iff.1 hu).1; omega
    rw [Nat.zero_add]
    refine a1.cell hj ?_
    rw [a2 rfl j hj, List.getD_eq_getElem?_getD, hu]; rfl
  · have hj : j < 3 := (List.getElem?_eq_some_iff.1 hu).1
    rw [Nat.zero_add]
    refine b1.cell hj ?_
    rw [b2 rfl j hj]
    rcases (by omega : j = 0 ∨ j = 1 ∨ j = 2) with rfl | rfl | rfl
    · exact Option.some.inj hu
    · exact Option.some.inj hu
    · exact Option.some.inj hu
end Go.Proofs.YtoefekkdjcflmaaGreatDoor.Et

