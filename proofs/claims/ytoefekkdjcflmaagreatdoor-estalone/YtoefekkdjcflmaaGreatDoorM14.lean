/- Parts of the proof. -/
import Derived.Test.YtoefekkdjcflmaaGreatDoorM03
import Derived.Test.YtoefekkdjcflmaaGreatDoorM13
namespace Go.Proofs.YtoefekkdjcflmaaGreatDoor
open Go.RowKit Go.Sort Qm
theorem enters_each : ∀ (args : Array Value) (a : World), Sem.run Tryz.prog (callFunc 195 args) a = Result.ok (Next.enter 195 args) a := by
  intro args a
  simp [callFunc, Tryz.func195, go_sem]
  rfl
theorem enters_scaled : ∀ (args : Array Value) (a : World), Sem.run Tryz.prog (callFunc 196 args) a = Result.ok (Next.enter 196 args) a := by
  intro args a
  simp [callFunc, Tryz.func196, go_sem]
  rfl
theorem enters_in1 : ∀ (args : Array Value) (a : World), Sem.run Tryz.prog (callFunc 186 args) a = Result.ok (Next.enter 186 args) a := by
  intro args a
  simp [callFunc, Tryz.func186, go_sem]
  rfl
theorem enters_in2 : ∀ (args : Array Value) (a : World), Sem.run Tryz.prog (callFunc 187 args) a = Result.ok (Next.enter 187 args) a := by
  intro args a
  simp [callFunc, Tryz.func187, go_sem]
  rfl
theorem enters_co1 : ∀ (args : Array Value) (a : World), Sem.run Tryz.prog (callFunc 188 args) a = Result.ok (Next.enter 188 args) a := by
  intro args a
  simp [callFunc, Tryz.func188, go_sem]
  rfl
theorem in1_any (z n : Int) (Z : Nat) (w : World) (hZ : w.cell? ⟨Z, 0, none⟩ = some (.int .i64 z)) : Calls Tryz.prog 186 #[.int .i64 n, .pointer (some ⟨Z, 0, none⟩)] w fun e b => e = .returned (.tuple #[.int .i64 (sub z n), .bool (subB z n)]) ∧ Below w.heap.size w b := by
  go_enter Tryz.func186, Tryz.ntmps186
  go_wp2_with (go_at_call 103; refine (sub_any z n _).mono ?_; rintro e wx ⟨rfl, rfl⟩)
  refine bodyPost_ret (v := .tuple #[.int .i64 (sub z n), .bool (subB z n)]) (by simp [results, Tryz.results186, go_sem]) rfl ?_
  exact ⟨rfl, Below.refl _ _⟩
theorem in2_any (z n : Int) (Z : Nat) (w : World) (hZ : w.cell? ⟨Z, 0, none⟩ = some (.int .i64 z)) : Calls Tryz.prog 187 #[.int .i64 n, .pointer (some ⟨Z, 0, none⟩)] w fun e b => e = .returned (.tuple #[.int .i64 (add n z), .bool (addB n z)]) ∧ Below w.heap.size w b := by
  go_enter Tryz.func187, Tryz.ntmps187
  go_wp2_with (go_at_call 118; refine (add_any n z _).mono ?_; rintro e wx ⟨rfl, rfl⟩)
  refine bodyPost_ret (v := .tuple #[.int .i64 (add n z), .bool (addB n z)]) (by simp [results, Tryz.results187, go_sem]) rfl ?_
  exact ⟨rfl, Below.refl _ _⟩
theorem co1_any (z n : Int) (Z : Nat) (w : World) (hZ : w.cell? ⟨Z, 0, none⟩ = some (.int .i64 z)) : Calls Tryz.prog 188 #[.int .i64 n, .pointer (some ⟨Z, 0, none⟩)] w fun e b => e = .returned (.tuple #[.int .i64 (div n z), .bool (divB n z)]) ∧ Below w.heap.size w b := by
  go_enter Tryz.func188, Tryz.ntmps188
  go_wp2_with (go_at_call 107; refine (div_any n z _).mono ?_; rintro e wx ⟨rfl, bx⟩)
  refine bodyPost_ret (v := .tuple #[.int .i64 (div n z), .bool (divB n z)]) (by simp [results, Tryz.results188, go_sem]) rfl ?_
  exact ⟨rfl, bx⟩
theorem each_any (G : Nat) (caps : Array Value) (w : World) :
    Calls Tryz.prog 185 #[.func (.func G) #[] caps] w fun e b => e = .returned (.func (.func 195) #[] #[.pointer (some ⟨w.heap.size, 0, none⟩)]) ∧ b = w.alloc (.cells #[.func (.func G) #[] caps] 117) := by
  go_enter Tryz.func185, Tryz.ntmps185
  go_wp2
  go_ret
  exact ⟨rfl, rfl⟩
theorem scaled_any (k : Int) (w : World) :
    Calls Tryz.prog 189 #[.int .i64 k] w fun e b => e = .returned (.func (.func 196) #[] #[.pointer (some ⟨w.heap.size, 0, none⟩)]) ∧ b = w.alloc (.cells #[.int .i64 k] 22) := by
  go_enter Tryz.func189, Tryz.ntmps189
  go_wp2
  go_ret
  exact ⟨rfl, rfl⟩
set_option maxRecDepth 20000 in
set_option maxHeartbeats 800000 in
theorem scaled1_any (R C : Nat) (h1 : 1 ≤ R) (hR : R ≤ 8) (h2 : 1 ≤ C) (hC : C ≤ 8) (k : Int) (A : Nat) (vm : Value) (ys : List Int) (hy : ys.length = R * C) (w : World) (hA : w.cell? ⟨A, 0, none⟩ = some (.int .i64 k)) (hAw : A < w.heap.size) (sm : Sees w vm ys) :
    Calls Tryz.prog 196 #[.agg #[.int .i64 R, .int .i64 C, vm], .pointer (some ⟨A, 0, none⟩)] w fun e b => ∃ s', e = .returned (.tuple #[.agg #[.int .i64 R, .int .i64 C, s'], .bool (sclB ys k), .int .i64 0]) ∧ Sees b s' (scl ys k) ∧ New w.heap.size s' ∧ Below w.heap.size w b := by
  obtain ⟨mo, mcap, rfl⟩ := sm.slice
  obtain ⟨W, hW⟩ : ∃ W, (w.alloc (.cells #[.int .i64 R, .int .i64 C, .slice mo ys.length mcap] 29)).alloc (.cells #[.int .i64 0, .int .i64 0, .slice none 0 0] 29) = W := ⟨_, rfl⟩
  obtain ⟨x1, x2⟩ := allocs2 w (.cells #[.int .i64 R, .int .i64 C, .slice mo ys.length mcap] 29) (.cells #[.int .i64 0, .int .i64 0, .slice none 0 0] 29)
  have bW := ball2 w (.cells #[.int .i64 R, .int .i64 C, .slice mo ys.length mcap] 29) (.cells #[.int .i64 0, .int .i64 0, .slice none 0 0] 29)
  rw [hW] at x1 x2 bW
  have cA : W.cell? ⟨A, 0, none⟩ = some (.int .i64 k) := (bW.cell (p := ⟨A, 0, none⟩) hAw).trans hA
  obtain ⟨d0, d1, d2, _⟩ := mat_cells x1
  have k1 := scale_any R C h1 hR h2 hC k _ ys hy W (sm.below bW)
  have HW : Hid (_ = W) := hW
  generalize scl ys k = zs at k1 ⊢
  generalize sclB ys k = fl at k1 ⊢
  clear hy
  go_enter Tryz.func196, Tryz.ntmps196
  go_wp2_with (go_at_call 197; refine k1.mono ?_; rintro e wx ⟨vx, rfl, sx, nx, bx⟩; obtain ⟨xo, xc, rfl⟩ := sx.slice; obtain ⟨e0, e1, e2, f0, f1, f2⟩ := mat_cells (heap_old (keep bx x2) (.cells #[.int .i64 R, .int .i64 C, .slice xo zs.length xc] 29)); obtain ⟨g0, g1, g2, _⟩ := mat_cells (heap_new wx (.cells #[.int .i64 R, .int .i64 C, .slice xo zs.length xc] 29)))
  refine bodyPost_ret (v := .tuple #[.agg #[.int .i64 R, .int .i64 C, .slice xo zs.length xc], .bool fl, .int .i64 0]) (by simp [results, Tryz.results196, go_sem, e0, e1, e2]) rfl ?_
  exact ⟨_, rfl, (sx.alloc _).put nx (lt_of_block x2) _ _ _, nx.mono bW.size, below_put (bt (bt bW bx) (box_below wx _)) (Nat.le_succ _) _ _ _⟩
namespace Qm
def eaL (t : Int → Int) (ys : List Int) : List Int := tab (fun k => t (ge ys k)) ys.length
def eaB (o : Int → Bool) (ys : List Int) : Bool := anyB (fun k => o (ge ys k)) ys.length
end Qm
theorem own_below {B n : Nat} {w w' : World} {v : Value} {xs : List Value} (h : w.ownsRow B 22 1 v n xs) (hb : Below w.heap.size w w') : w'.ownsRow B 22 1 v n xs := h.kept (gb_below none hb) (by cases hv : v.ownBlock <;> simp)
set_option maxRecDepth 20000 in
set_option maxHeartbeats 1600000 in
theorem each1_any (R C : Int) (G : Nat) (hG : ∀ (args : Array Value) (a : World), Sem.run Tryz.prog (callFunc G args) a = Result.ok (Next.enter G args) a) (caps : Array Value) (t : Int → Int) (o : Int → Bool) (A : Nat) (vm : Value) (ys : List Int) (hy : ys.length ≤ 64) (w : World)
    (hA : w.cell? ⟨A, 0, none⟩ = some (.func (.func G) #[] caps)) (hAw : A < w.heap.size) (sm : Sees w vm ys)
    (hcall : ∀ n a, Below w.heap.size w a → Calls Tryz.prog G (#[.int .i64 n] ++ caps) a (fun e b => e = .returned (.tuple #[.int .i64 (t n), .bool (o n)]) ∧ Below a.heap.size a b)) :
    Calls Tryz.prog 195 #[.agg #[.int .i64 R, .int .i64 C, vm], .pointer (some ⟨A, 0, none⟩)] w fun e b => ∃ s', e = .returned (.tuple #[.agg #[.int .i64 R, .int .i64 C, s'], .bool (eaB o ys), .int .i64 0]) ∧ Sees b s' (eaL t ys) ∧ New w.heap.size s' ∧ Below w.heap.size w b := by
  obtain ⟨i0, hi, hz0, hz1, hz2⟩ := info_parts Tryz.info33
  obtain ⟨mo, mcap, rfl⟩ := sm.slice
  unfold eaB eaL
  obtain ⟨n, hn⟩ : ∃ n, ys.length = n := ⟨_, rfl⟩
  have HN : Hid (ys.length = n) := hn
  rw [hn] at hy sm ⊢
  clear hn
  obtain ⟨W, hW⟩ : ∃ W, (w.alloc (.cells #[.int .i64 R, .int .i64 C, .slice mo n mcap] 29)).alloc (.cells #[.int .i64 0, .int .i64 0, .slice none 0 0] 29) = W := ⟨_, rfl⟩
  obtain ⟨x1, x2⟩ := allocs2 w (.cells #[.int .i64 R, .int .i64 C, .slice mo n mcap] 29) (.cells #[.int .i64 0, .int .i64 0, .slice none 0 0] 29)
  have bW := ball2 w (.cells #[.int .i64 R, .int .i64 C, .slice mo n mcap] 29) (.cells #[.int .i64 0, .int .i64 0, .slice none 0 0] 29)
  rw [hW] at x1 x2 bW
  obtain ⟨d0, d1, d2, _⟩ := mat_cells x1
  have cA : ∀ v, Below W.heap.size W v → v.cell? ⟨A, 0, none⟩ = some (.func (.func G) #[] caps) := fun v hv => (hv.cell (p := ⟨A, 0, none⟩) (Nat.lt_of_lt_of_le hAw bW.size)).trans ((bW.cell (p := ⟨A, 0, none⟩) hAw).trans hA)
  have hsW := sm.below bW
  have HW : Hid (_ = W) := hW
  go_enter Tryz.func195, Tryz.ntmps195
  go_wp2_with (at_make; refine wpList_make_own _ rfl _ _ 27 rfl W.heap.size 22 i0 (.int .i64 0) 1 Tryz.under22 hi hz0 hz1 .i64 .i64 _ n rfl rfl rfl (by rw [hz2]; omega) (by unfold maxLen; omega) (by simp) ?_; intro w1 hown1 hg1; have hb1 := gb_none hg1; clear hg1; obtain ⟨q0, q1, q2, _⟩ := mat_cells (keep hb1 x1))
  go_loopw [6, 7, 19] (fun l m i wr => ∃ a : Nat, a ≤ n ∧ i = .int .i64 a ∧ m = .bool (anyB (fun k => o (ge ys k)) a) ∧ wr.ownsRow W.heap.size 22 1 l a ((tab (fun k => t (ge ys k)) a).map (Value.int .i64)) ∧ Below W.heap.size W wr) (fun _ _ i _ => n - (intOf i).toNat)
  case atStart => exact ⟨0, Nat.zero_le _, rfl, rfl, by simpa [tab_zero] using hown1, hb1⟩
  case round =>
    clear hown1 hb1 q0 q1 q2
    obtain ⟨a, ha, rfl, rfl, hown, hb⟩ := hrel
    obtain ⟨q0, q1, q2, _⟩ := mat_cells (keep hb x1)
    by_cases hlt : a < n
    · have hcell : ∃ ad, mo = some ad ∧ wr.cell? (ad.add a) = some (.int .i64 (ge ys a)) := by
        obtain ⟨mo', cap', e1, hc⟩ := hsW.below hb
        obtain ⟨ad, h1, _, h3⟩ := hc a (by rw [HN.out]; exact hlt)
        injection e1 with e2
        exact ⟨ad, by rw [e2]; exact h1, h3⟩
      obtain ⟨ad, rfl, hc⟩ := hcell
      have cw := cA wr hb
      have hcl := hcall (ge ys a) wr (bt bW hb)
      have hm2 : anyB (fun k => o (ge ys k)) (a + 1) = (anyB (fun k => o (ge ys k)) a || o (ge ys a)) := rfl
      have hl2 : (tab (fun k => t (ge ys k)) (a + 1)).map (Value.int .i64) = (tab (fun k => t (ge ys k)) a).map (Value.int .i64) ++ [.int .i64 (t (ge ys a))] := by rw [tab_succ, List.map_append]; rfl
      have HM : Hid (anyB (fun k => o (ge ys k)) (a + 1) = (anyB (fun k => o (ge ys k)) a || o (ge ys a))) := hm2
      have HL : Hid ((tab (fun k => t (ge ys k)) (a + 1)).map (Value.int .i64) = (tab (fun k => t (ge ys k)) a).map (Value.int .i64) ++ [.int .i64 (t (ge ys a))]) := hl2
      clear hm2 hl2
      generalize (tab (fun k => t (ge ys k)) a).map (Value.int .i64) = vals at hown HL
      generalize anyB (fun k => o (ge ys k)) a = m at HM ⊢
      generalize ge ys a = y at hc hcl HM HL ⊢
      have hWb := hb.size
      cases m
      all_goals
        go_wp2_with (first
          | (refine Calls.mono hcl ?_; rintro e wx ⟨rfl, bx⟩)
          | (at_builtin; go_must (refine wpList_append_own _ rfl _ _ 27 rfl W.heap.size 22 i0 (.int .i64 0) 1 8 Tryz.under22 hi hz0 hz1 hz2 rfl (by decide) _ _ _ rfl ((own_below hown bx).alloc _) ⟨_, 0, none⟩ 1 1 [.int .i64 (t y)] rfl rfl c1_one c2_one (by unfold maxLen; omega) (by omega) (by have h7 := bx.size; simp; omega) ?_); intro v2 w2 hown2 hg2 hnil2; have HB2 : Below W.heap.size W w2 := (bt hb bx).trans (((Below.refl _ _).alloc (by have := bx.size; omega) _).grown hg2 (by have := bx.size; simp; omega) (fun m e => (hown.lt m e).1)); clear hg2 hnil2))
        go_roundw
        case rel => exact ⟨a + 1, by omega, by go_num, by rw [HM.out]; simp, by rw [HL.out]; exact hown2, HB2⟩
        case measure => simp [intOf]; omega
    · have e : a = n := by omega
      subst e
      obtain ⟨e0, e1, e2, f0, f1, f2⟩ := mat_cells (keep hb x2)
      obtain ⟨lo, lc, rfl⟩ := own_slice hown
      have hsees := Sees.own hown
      have hnew := New.own hown
      clear hown
      go_wp2
      refine bodyPost_ret (v := .tuple #[.agg #[.int .i64 R, .int .i64 C, .slice lo a lc], .bool (anyB (fun k => o (ge ys k)) a), .int .i64 0]) (by simp [results, Tryz.results195, go_sem, e0, e1, e2]) rfl ?_
      exact ⟨_, rfl, hsees.put hnew (lt_of_block x2) _ _ _, hnew.mono bW.size, below_put (bt bW hb) (Nat.le_succ _) _ _ _⟩
end Go.Proofs.YtoefekkdjcflmaaGreatDoor
namespace Go.Proofs.YtoefekkdjcflmaaGreatDoor
open Go.RowKit Go.Sort Qm
def Agr (B N : Nat) (S : Nat → Prop) (w w' : World) : Prop := w.heap.size ≤ w'.heap.size ∧ ∀ k, (S k ∨ (k < B ∧ k ≠ N)) → w'.heap[k]? = w.heap[k]?
theorem Agr.trans {B N : Nat} {S : Nat → Prop} {a b c : World} (h : Agr B N S a b) (k : Agr B N S b c) : Agr B N S a c := ⟨Nat.le_trans h.1 k.1, fun i hi => (k.2 i hi).trans (h.2 i hi)⟩
theorem Agr.mono {B N : Nat} {S S' : Nat → Prop} {a b : World} (h : Agr B N S a b) (hS : ∀ k, S' k → S k) : Agr B N S' a b := ⟨h.1, fun i hi => h.2 i (hi.imp (hS i) id)⟩
theorem agr_of {N : Nat} {S : Nat → Prop} {w0 w w' : World} (h : Mod (fun b => b = N) w0 w) (h' : Mod (fun b => b = N) w0 w') (hz : w.heap.size ≤ w'.heap.size) (hS : ∀ k, S k → w'.heap[k]? = w.heap[k]?) : Agr w0.heap.size N S w w' :=
  ⟨hz, fun k hk => hk.elim (hS k) fun hk => (h'.block k hk.1 hk.2).trans (h.block k hk.1 hk.2).symm⟩
def OkS (B N : Nat) (S : Nat → Prop) (v : Value) : Prop := ∀ k, v.ownBlock = some k → S k ∨ (k < B ∧ k ≠ N)
theorem Sees.agr {B N : Nat} {S : Nat → Prop} {w w' : World} {v : Value} {xs : List Int} (h : Sees w v xs) (ho : OkS B N S v) (ha : Agr B N S w w') : Sees w' v xs := h.agree ha.1 fun k hk => ha.2 k (ho k hk)
def Old (B N : Nat) (v : Value) : Prop := ∀ k, v.ownBlock = some k → k < B ∧ k ≠ N
theorem Old.ok {B N : Nat} {v : Value} (h : Old B N v) (S : Nat → Prop) : OkS B N S v := fun k hk => .inr (h k hk)
theorem Sees.mod {N : Nat} {w0 w : World} {v : Value} {xs : List Int} (h : Sees w0 v xs) (ho : Old w0.heap.size N v) (hm : Mod (fun b => b = N) w0 w) : Sees w v xs := h.agree hm.size fun k hk => hm.block k (ho k hk).1 (ho k hk).2
theorem Mod.old {N : Nat} {w0 w : World} (hm : Mod (fun b => b = N) w0 w) {D : Nat} {o : Obj} (h : w0.heap[D]? = some o) (hD : D ≠ N) : w.heap[D]? = some o := (hm.block D (lt_of_block h) hD).trans h
def StepV (B N : Nat) (R C : Nat) (xs : List Int) (R' C' : Nat) (ys : List Int) (m : Bool) (v : Value) (S : Nat → Prop) (w : World) : Prop :=
  ∃ F caps, v = .func (.func F) #[] caps ∧ (∀ (args : Array Value) (a : World), Sem.run Tryz.prog (callFunc F args) a = Result.ok (Next.enter F args) a) ∧
    ∀ w', Agr B N S w w' → ∀ s, Sees w' s xs → Calls Tryz.prog F (#[.agg #[.int .i64 R, .int .i64 C, s]] ++ caps) w' fun e b => ∃ s', e = .returned (.tuple #[.agg #[.int .i64 R', .int .i64 C', s'], .bool m, .int .i64 0]) ∧ Sees b s' ys ∧ New w'.heap.size s' ∧ Below w'.heap.size w' b
theorem StepV.stab {B N R C R' C' : Nat} {xs ys : List Int} {m : Bool} {v : Value} {S : Nat → Prop} {w w' : World} (h : StepV B N R C xs R' C' ys m v S w) (ha : Agr B N S w w') : StepV B N R C xs R' C' ys m v S w' := by
  obtain ⟨F, caps, h1, h2, h3⟩ := h
  exact ⟨F, caps, h1, h2, fun w'' ha' => h3 w'' (ha.trans ha')⟩
theorem StepV.mono {B N R C R' C' : Nat} {xs ys : List Int} {m : Bool} {v : Value} {S S' : Nat → Prop} {w : World} (h : StepV B N R C xs R' C' ys m v S w) (hS : ∀ k, S k → S' k) : StepV B N R C xs R' C' ys m v S' w := by
  obtain ⟨F, caps, h1, h2, h3⟩ := h
  exact ⟨F, caps, h1, h2, fun w'' ha' => h3 w'' (ha'.mono hS)⟩
theorem left_step {B Nn : Nat} (R N C : Nat) (r1 : 1 ≤ R) (hR : R ≤ 8) (n1 : 1 ≤ N) (hN : N ≤ 8) (c1 : 1 ≤ C) (hC : C ≤ 8) (xs ys : List Int) (hx : xs.length = R * N) (hy : ys.length = N * C) (A : Nat) (va : Value) (S : Nat → Prop) (w : World)
    (hA : w.heap[A]? = some (.cells #[.int .i64 R, .int .i64 N, va] 29 (0, 0))) (hSA : S A) (sa : Sees w va xs) (ho : OkS B Nn S va) :
    StepV B Nn N C ys R C (prd R N C xs ys) (prdB R N C xs ys) (.func (.func 156) #[] #[.pointer (some ⟨A, 0, none⟩)]) S w :=
  ⟨_, _, rfl, enters_left, fun w' ha s hs => left1_any R N C r1 hR n1 hN c1 hC A va s xs ys hx hy w' ((ha.2 A (.inl hSA)).trans hA) (sa.agr ho ha) hs⟩
theorem rght_step {B Nn : Nat} (R N C : Nat) (r1 : 1 ≤ R) (hR : R ≤ 8) (n1 : 1 ≤ N) (hN : N ≤ 8) (c1 : 1 ≤ C) (hC : C ≤ 8) (xs ys : List Int) (hx : xs.length = N * C) (hy : ys.length = R * N) (A : Nat) (va : Value) (S : Nat → Prop) (w : World)
    (hA : w.heap[A]? = some (.cells #[.int .i64 N, .int .i64 C, va] 29 (0, 0))) (hSA : S A) (sa : Sees w va xs) (ho : OkS B Nn S va) :
    StepV B Nn R N ys R C (prd R N C ys xs) (prdB R N C ys xs) (.func (.func 158) #[] #[.pointer (some ⟨A, 0, none⟩)]) S w :=
  ⟨_, _, rfl, enters_rght, fun w' ha s hs => rght1_any R N C r1 hR n1 hN c1 hC A va s xs ys hx hy w' ((ha.2 A (.inl hSA)).trans hA) (sa.agr ho ha) hs⟩
theorem plus_step {B Nn : Nat} (R C : Nat) (r1 : 1 ≤ R) (hR : R ≤ 8) (c1 : 1 ≤ C) (hC : C ≤ 8) (xs ys : List Int) (hx : xs.length = R * C) (hy : ys.length = R * C) (A : Nat) (va : Value) (S : Nat → Prop) (w : World)
    (hA : w.heap[A]? = some (.cells #[.int .i64 R, .int .i64 C, va] 29 (0, 0))) (hSA : S A) (sa : Sees w va xs) (ho : OkS B Nn S va) :
    StepV B Nn R C ys R C (pai add xs ys) (paiB addB xs ys) (.func (.func 164) #[] #[.pointer (some ⟨A, 0, none⟩)]) S w :=
  ⟨_, _, rfl, enters_plus, fun w' ha s hs => plus1_any R C r1 hR c1 hC A va s xs ys hx hy w' ((ha.2 A (.inl hSA)).trans hA) (sa.agr ho ha) hs⟩
theorem less_step {B Nn : Nat} (R C : Nat) (r1 : 1 ≤ R) (hR : R ≤ 8) (c1 : 1 ≤ C) (hC : C ≤ 8) (xs ys : List Int) (hx : xs.length = R * C) (hy : ys.length = R * C) (A : Nat) (va : Value) (S : Nat → Prop) (w : World)
    (hA : w.heap[A]? = some (.cells #[.int .i64 R, .int .i64 C, va] 29 (0, 0))) (hSA : S A) (sa : Sees w va xs) (ho : OkS B Nn S va) :
    StepV B Nn R C ys R C (pai sub xs ys) (paiB subB xs ys) (.func (.func 199) #[] #[.pointer (some ⟨A, 0, none⟩)]) S w :=
  ⟨_, _, rfl, enters_less, fun w' ha s hs => less1_any R C r1 hR c1 hC A va s xs ys hx hy w' ((ha.2 A (.inl hSA)).trans hA) (sa.agr ho ha) hs⟩
theorem scal_step {B Nn : Nat} (R C : Nat) (r1 : 1 ≤ R) (hR : R ≤ 8) (c1 : 1 ≤ C) (hC : C ≤ 8) (k : Int) (ys : List Int) (hy : ys.length = R * C) (A : Nat) (S : Nat → Prop) (w : World)
    (hA : w.heap[A]? = some (.cells #[.int .i64 k] 22 (0, 0))) (hSA : S A) :
    StepV B Nn R C ys R C (scl ys k) (sclB ys k) (.func (.func 196) #[] #[.pointer (some ⟨A, 0, none⟩)]) S w :=
  ⟨_, _, rfl, enters_scaled, fun w' ha s hs => scaled1_any R C r1 hR c1 hC k A s ys hy w' (by have h := (ha.2 A (.inl hSA)).trans hA; simp [World.cell?, h]) (lt_of_block ((ha.2 A (.inl hSA)).trans hA)) hs⟩
theorem each_step {B Nn : Nat} (R C : Nat) (G : Nat) (hG : ∀ (args : Array Value) (a : World), Sem.run Tryz.prog (callFunc G args) a = Result.ok (Next.enter G args) a) (t : Int → Int) (o : Int → Bool) (z : Int) (Z : Nat) (hZB : Z < B) (hZN : Z ≠ Nn)
    (hcall : ∀ n a, a.cell? ⟨Z, 0, none⟩ = some (.int .i64 z) → Calls Tryz.prog G #[.int .i64 n, .pointer (some ⟨Z, 0, none⟩)] a (fun e b => e = .returned (.tuple #[.int .i64 (t n), .bool (o n)]) ∧ Below a.heap.size a b))
    (ys : List Int) (hy : ys.length ≤ 64) (A : Nat) (S : Nat → Prop) (w : World) (hZ : w.cell? ⟨Z, 0, none⟩ = some (.int .i64 z)) (hBw : B ≤ w.heap.size)
    (hA : w.heap[A]? = some (.cells #[.func (.func G) #[] #[.pointer (some ⟨Z, 0, none⟩)]] 117 (0, 0))) (hSA : S A) :
    StepV B Nn R C ys R C (eaL t ys) (eaB o ys) (.func (.func 195) #[] #[.pointer (some ⟨A, 0, none⟩)]) S w :=
  ⟨_, _, rfl, enters_each, fun w' ha s hs => each1_any R C G hG #[.pointer (some ⟨Z, 0, none⟩)] t o A s ys hy w' (by have h := (ha.2 A (.inl hSA)).trans hA; simp [World.cell?, h]) (lt_of_block ((ha.2 A (.inl hSA)).trans hA)) hs
    (fun n a hb => hcall n a (by rw [hb.cell (p := ⟨Z, 0, none⟩) (Nat.lt_of_lt_of_le hZB (Nat.le_trans hBw ha.1)), World.cell?_of_block (w := w) (ha.2 Z (.inr ⟨hZB, hZN⟩))]; exact hZ))⟩
def TMat (B : Nat) (R C : Int) (xs : List Int) (v : Value) (S : Nat → Prop) (w : World) : Prop := ∃ ao cap, v = .agg #[.int .i64 R, .int .i64 C, .slice ao xs.length cap] ∧ Sees w (.slice ao xs.length cap) xs ∧ ∀ k, (Value.slice ao xs.length cap).ownBlock = some k → S k ∧ B ≤ k
theorem TMat.stab {B B' N : Nat} {R C : Int} {xs : List Int} {v : Value} {S : Nat → Prop} {w w' : World} (h : TMat B R C xs v S w) (ha : Agr B' N S w w') : TMat B R C xs v S w' := by
  obtain ⟨ao, cap, h1, h2, h3⟩ := h
  exact ⟨ao, cap, h1, h2.agr (fun k hk => .inl (h3 k hk).1) ha, h3⟩
def TSl (B : Nat) (ts : List (Value → (Nat → Prop) → World → Prop)) (v : Value) (S : Nat → Prop) (w : World) : Prop := ∃ (b : Nat) (vs : List Value), v = .slice (some ⟨b, 0, none⟩) ts.length ts.length ∧ S b ∧ B ≤ b ∧ vs.length = ts.length ∧ w.heap[b]? = some (.cells vs.toArray 145 (0, 0)) ∧ ∀ (i : Nat) (t : Value → (Nat → Prop) → World → Prop) (u : Value), ts[i]? = some t → vs[i]? = some u → t u S w
theorem TSl.stab {B B' N : Nat} {ts : List (Value → (Nat → Prop) → World → Prop)} {v : Value} {S : Nat → Prop} {w w' : World} (h : TSl B ts v S w) (hts : ∀ t ∈ ts, ∀ u, t u S w → t u S w') (ha : Agr B' N S w w') : TSl B ts v S w' := by
  obtain ⟨b, vs, h1, h2, h3, h4, h5, h6⟩ := h
  exact ⟨b, vs, h1, h2, h3, h4, (ha.2 b (.inl h2)).trans h5, fun i t u ht hu => hts t (List.mem_of_getElem? ht) u (h6 i t u ht hu)⟩
def TRes (B N : Nat) (R C : Int) (xs : List Int) (m : Bool) (v : Value) (S : Nat → Prop) (w : World) : Prop := TMat B R C xs v S w ∧ S N ∧ w.heap[N]? = some (.cells #[.bool m, .int .i64 0] 141 (0, 0))
theorem TRes.stab {B B' N N' : Nat} {R C : Int} {xs : List Int} {m : Bool} {v : Value} {S : Nat → Prop} {w w' : World} (h : TRes B N R C xs m v S w) (ha : Agr B' N' S w w') : TRes B N R C xs m v S w' := ⟨h.1.stab ha, h.2.1, (ha.2 N (.inl h.2.1)).trans h.2.2⟩
def TPtr (B : Nat) (v : Value) (S : Nat → Prop) (w : World) : Prop := ∃ D, v = .pointer (some ⟨D, 0, none⟩) ∧ S D ∧ B ≤ D ∧ ∃ x y z, w.heap[D]? = some (.cells #[x, y, z] 29 (0, 0))
theorem TPtr.stab {B B' N : Nat} {v : Value} {S : Nat → Prop} {w w' : World} (h : TPtr B v S w) (ha : Agr B' N S w w') : TPtr B v S w' := by
  obtain ⟨D, h1, h2, h3, x, y, z, h4⟩ := h
  exact ⟨D, h1, h2, h3, x, y, z, (ha.2 D (.inl h2)).trans h4⟩
def TSto (B : Nat) (R C : Int) (xs : List Int) (u : Value) (S : Nat → Prop) (w : World) : Prop := ∃ D ao cap, u = .pointer (some ⟨D, 0, none⟩) ∧ S D ∧ B ≤ D ∧ w.heap[D]? = some (.cells #[.int .i64 R, .int .i64 C, .slice ao xs.length cap] 29 (0, 0)) ∧ Sees w (.slice ao xs.length cap) xs ∧ ∀ k, (Value.slice ao xs.length cap).ownBlock = some k → S k ∧ B ≤ k
theorem TSto.stab {B B' N : Nat} {R C : Int} {xs : List Int} {u : Value} {S : Nat → Prop} {w w' : World} (h : TSto B R C xs u S w) (ha : Agr B' N S w w') : TSto B R C xs u S w' := by
  obtain ⟨D, ao, cap, h1, h2, h3, h4, h5, h6⟩ := h
  exact ⟨D, ao, cap, h1, h2, h3, (ha.2 D (.inl h2)).trans h4, h5.agr (fun k hk => .inl (h6 k hk).1) ha, h6⟩
section
variable {a : Act} {w : World} {K : Act → World → Prop} {Q : Exit → Act → World → Prop} {o : Oper}
theorem op_makeFunc1 {F s : Nat} {v : Value} (hop : o.op = Op.makeFunc (Fn.func F) #[Operand.tmp s] #[]) (hs : a.tmps[s]?.getD undef = v) (hk : K (a.put o.dst (.func (.func F) #[v] #[])) w) : o.wp Tryz.prog a w K Q := by
  unfold Oper.wp
  simp [execOp, hop, go_sem, hs]
  exact hk
theorem op_makeFunc2 {F s : Nat} {v : Value} (hop : o.op = Op.makeFunc (Fn.func F) #[] #[Operand.tmp s]) (hs : a.tmps[s]?.getD undef = v) (hk : K (a.put o.dst (.func (.func F) #[] #[v])) w) : o.wp Tryz.prog a w K Q := by
  unfold Oper.wp
  simp [execOp, hop, go_sem, hs]
  exact hk
theorem op_slice1 {s : Nat} {f0 : Fn} {b0 c0 : Array Value} (hop : o.op = Op.buildSlice 183 1 #[(0, Operand.tmp s)]) (hs : a.tmps[s]?.getD undef = .func f0 b0 c0) (hk : K (a.put o.dst (.slice (some ⟨w.heap.size, 0, none⟩) 1 1)) (w.alloc (.cells #[.func f0 b0 c0] 145))) : o.wp Tryz.prog a w K Q := by
  unfold Oper.wp
  simp [execOp, hop, go_sem, hs]
  exact hk
theorem op_slice2 {s t : Nat} {f0 f1 : Fn} {b0 c0 b1 c1 : Array Value} (hop : o.op = Op.buildSlice 183 2 #[(0, Operand.tmp s), (1, Operand.tmp t)]) (hs : a.tmps[s]?.getD undef = .func f0 b0 c0) (ht : a.tmps[t]?.getD undef = .func f1 b1 c1) (hk : K (a.put o.dst (.slice (some ⟨w.heap.size, 0, none⟩) 2 2)) (w.alloc (.cells #[.func f0 b0 c0, .func f1 b1 c1] 145))) : o.wp Tryz.prog a w K Q := by
  unfold Oper.wp
  simp [execOp, hop, go_sem, hs, ht]
  exact hk
theorem op_slice3 {s t r : Nat} {f0 f1 f2 : Fn} {b0 c0 b1 c1 b2 c2 : Array Value} (hop : o.op = Op.buildSlice 183 3 #[(0, Operand.tmp s), (1, Operand.tmp t), (2, Operand.tmp r)]) (hs : a.tmps[s]?.getD undef = .func f0 b0 c0) (ht : a.tmps[t]?.getD undef = .func f1 b1 c1) (hr : a.tmps[r]?.getD undef = .func f2 b2 c2) (hk : K (a.put o.dst (.slice (some ⟨w.heap.size, 0, none⟩) 3 3)) (w.alloc (.cells #[.func f0 b0 c0, .func f1 b1 c1, .func f2 b2 c2] 145))) : o.wp Tryz.prog a w K Q := by
  unfold Oper.wp
  simp [execOp, hop, go_sem, hs, ht, hr]
  exact hk
theorem op_call3 {f s t r : Nat} {v u x : Value} {ts : Array TypeId} {R : Ending → World → Prop} (hF : ∀ (args : Array Value) (a : World), Sem.run Tryz.prog (callFunc f args) a = Result.ok (Next.enter f args) a) (hop : o.op = Op.call { callee := Callee.value (Operand.func f), args := #[Operand.tmp s, Operand.tmp t, Operand.tmp r], argTypes := ts }) (hs : a.tmps[s]?.getD undef = v) (ht : a.tmps[t]?.getD undef = u) (hr : a.tmps[r]?.getD undef = x)
    (hc : Calls Tryz.prog f #[v, u, x] w R) (hk : ∀ e w', R e w' → ∃ x, e = .returned x ∧ K (a.put o.dst x) w') : o.wp Tryz.prog a w K Q := by
  unfold Oper.wp
  simp [execOp, hop, go_sem, hs, ht, hr, hF]
  refine hc.mono ?_
  intro e w' h
  obtain ⟨x, rfl, hx⟩ := hk e w' h
  exact hx
end
theorem enters_kreck : ∀ (args : Array Value) (a : World), Sem.run Tryz.prog (callFunc 111 args) a = Result.ok (Next.enter 111 args) a := by
  intro args a
  simp [callFunc, Tryz.func111, go_sem]
  rfl
theorem reck_call (k : Nat) (hk8 : k ≤ 8) (hk0 : 0 < k) (R C : Nat → Nat) (X : Nat → List Int) (mb : Nat → Bool) (N : Nat) (m0 : Bool) (w0 w : World) (v sl : Value) (S : Nat → Prop) (hm : Mod (fun b => b = N) w0 w)
    (hN : w.heap[N]? = some (.cells #[.bool m0, .int .i64 0] 141 (0, 0)))
    (hT : TSl w0.heap.size ((List.range k).map fun i => StepV w0.heap.size N (R i) (C i) (X i) (R (i + 1)) (C (i + 1)) (X (i + 1)) (mb i)) v S w) (hS : ∀ b, S b → b < w.heap.size ∧ ¬ b = N)
    (hpos : ∀ i, i ≤ k → 0 < (X i).length) (hs : Sees w sl (X 0)) (hne : ∀ b, sl.ownBlock = some b → b ≠ N) :
    Calls Tryz.prog 111 #[.func (.func 112) #[.pointer (some ⟨N, 0, none⟩)] #[], .agg #[.int .i64 (R 0), .int .i64 (C 0), sl], v] w fun e b => ∃ x S', e = .returned x ∧ TRes w0.heap.size N (R k) (C k) (X k) (m0 || anyB mb k) x S' b ∧
      (∀ c, S' c → (w.heap.size ≤ c ∧ c < b.heap.size) ∨ c = N) ∧ Mod (fun c => c = N) w b := by
  obtain ⟨bS, vs, rfl, h2, h3, h4, h5, h6⟩ := hT
  have hlen : ((List.range k).map fun i => StepV w0.heap.size N (R i) (C i) (X i) (R (i + 1)) (C (i + 1)) (X (i + 1)) (mb i)).length = k := by simp
  rw [hlen] at h4 ⊢
  have hst : ∀ i, i < k → ∃ F caps, vs[i]? = some (.func (.func F) #[] caps) ∧ (∀ (args : Array Value) (a : World), Sem.run Tryz.prog (callFunc F args) a = Result.ok (Next.enter F args) a) ∧
      ∀ w', Agr w0.heap.size N S w w' → ∀ s, Sees w' s (X i) → Calls Tryz.prog F (#[.agg #[.int .i64 (R i), .int .i64 (C i), s]] ++ caps) w' fun e b => ∃ s', e = .returned (.tuple #[.agg #[.int .i64 (R (i + 1)), .int .i64 (C (i + 1)), s'], .bool (mb i), .int .i64 0]) ∧ Sees b s' (X (i + 1)) ∧ New w'.heap.size s' ∧ Below w'.heap.size w' b := by
    intro i hi
    have hv : vs[i]? = some (vs[i]'(by omega)) := List.getElem?_eq_getElem (by omega)
    obtain ⟨F, caps, g1, g2, g3⟩ := h6 i (StepV w0.heap.size N (R i) (C i) (X i) (R (i + 1)) (C (i + 1)) (X (i + 1)) (mb i)) _ (by simp [hi]) hv
    exact ⟨F, caps, by rw [hv, g1], g2, g3⟩
  have hex : ∃ (F : Nat → Nat) (caps : Nat → Array Value), ∀ i, i < k → vs[i]? = some (.func (.func (F i)) #[] (caps i)) ∧ (∀ (args : Array Value) (a : World), Sem.run Tryz.prog (callFunc (F i) args) a = Result.ok (Next.enter (F i) args) a) ∧
      ∀ w', Agr w0.heap.size N S w w' → ∀ s, Sees w' s (X i) → Calls Tryz.prog (F i) (#[.agg #[.int .i64 (R i), .int .i64 (C i), s]] ++ caps i) w' fun e b => ∃ s', e = .returned (.tuple #[.agg #[.int .i64 (R (i + 1)), .int .i64 (C (i + 1)), s'], .bool (mb i), .int .i64 0]) ∧ Sees b s' (X (i + 1)) ∧ New w'.heap.size s' ∧ Below w'.heap.size w' b := by
    refine ⟨fun i => if h : i < k then (hst i h).choose else 0, fun i => if h : i < k then (hst i h).choose_spec.choose else #[], fun i hi => ?_⟩
    simp only [dif_pos hi]
    exact (hst i hi).choose_spec.choose_spec
  obtain ⟨F, caps, hFc⟩ := hex
  refine (kreck_any k hk8 R C X mb N m0 w F caps bS sl hN (fun i hi => ?_) (hS bS h2).2 (hS bS h2).1 (fun i hi => (hFc i hi).2.1) (fun i hi w' hm' s hs' => (hFc i hi).2.2 w' ⟨hm'.size, fun c hc => ?_⟩ s hs') hpos hs hne).mono ?_
  · have := (hFc i hi).1
    simp [World.cell?, h5, this]
  · rcases hc with hc | hc
    · exact hm'.block c (hS c hc).1 (hS c hc).2
    · exact hm'.block c (Nat.lt_of_lt_of_le hc.1 hm.size) hc.2
  · rintro e b ⟨s', rfl, g1, g2, g3, g4⟩
    have hlt := g1.lt (hpos k (Nat.le_refl _))
    have hnw := g2 hk0
    obtain ⟨ao, cap, rfl⟩ := g1.slice
    refine ⟨_, fun c => (Value.slice ao (X k).length cap).ownBlock = some c ∨ c = N, rfl, ⟨⟨ao, cap, rfl, g1, fun c hc => ⟨.inl hc, Nat.le_trans hm.size (hnw c hc)⟩⟩, .inr rfl, g3⟩, fun c hc => ?_, Mod.ofGb g4⟩
    rcases hc with hc | hc
    · exact .inl ⟨hnw c hc, hlt c hc⟩
    · exact .inr hc
theorem enters_mleft : ∀ (args : Array Value) (a : World), Sem.run Tryz.prog (callFunc 113 args) a = Result.ok (Next.enter 113 args) a := by
  intro args a
  simp [callFunc, Tryz.func113, go_sem]
  rfl
theorem enters_mrght : ∀ (args : Array Value) (a : World), Sem.run Tryz.prog (callFunc 114 args) a = Result.ok (Next.enter 114 args) a := by
  intro args a
  simp [callFunc, Tryz.func114, go_sem]
  rfl
theorem enters_mplus : ∀ (args : Array Value) (a : World), Sem.run Tryz.prog (callFunc 116 args) a = Result.ok (Next.enter 116 args) a := by
  intro args a
  simp [callFunc, Tryz.func116, go_sem]
  rfl
theorem enters_mless : ∀ (args : Array Value) (a : World), Sem.run Tryz.prog (callFunc 191 args) a = Result.ok (Next.enter 191 args) a := by
  intro args a
  simp [callFunc, Tryz.func191, go_sem]
  rfl
theorem enters_mscaled : ∀ (args : Array Value) (a : World), Sem.run Tryz.prog (callFunc 189 args) a = Result.ok (Next.enter 189 args) a := by
  intro args a
  simp [callFunc, Tryz.func189, go_sem]
  rfl
theorem enters_meach : ∀ (args : Array Value) (a : World), Sem.run Tryz.prog (callFunc 185 args) a = Result.ok (Next.enter 185 args) a := by
  intro args a
  simp [callFunc, Tryz.func185, go_sem]
  rfl
theorem enters_trans : ∀ (args : Array Value) (a : World), Sem.run Tryz.prog (callFunc 115 args) a = Result.ok (Next.enter 115 args) a := by
  intro args a
  simp [callFunc, Tryz.func115, go_sem]
  rfl
end Go.Proofs.YtoefekkdjcflmaaGreatDoor

