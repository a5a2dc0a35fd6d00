/-
  The walk of QuatConjs.
-/
import Derived.Test.YtgekignonjfaiaaDoorWWholes
import Derived.Test.YtgekignonjfaiaaDoorCjR
namespace Go.Proofs.YtgekignonjfaiaaDoor
open Go.RowKit Go.Sort Qm

theorem conj_calm'' (p : Nat → Int) (w : World) (d : Nat) (os : Array Obj) : Calls Tryd.prog 17 #[.agg #[.int .i64 (p 0), .int .i64 (p 1), .int .i64 (p 2), .int .i64 (p 3)]] (grow (redrawn w d) os) fun e w'' => e = .returned (.agg #[.int .i64 (cj p 0), .int .i64 (cj p 1), .int .i64 (cj p 2), .int .i64 (cj p 3)]) ∧ ∃ p : Regrown, w'' = grow (redrawn w p.d) p.os :=
  Calls.regrown_of (conj_any p _)
theorem Qm.rm_51 (a : Nat → Int) : Upto 50 (rm 51 a) := fun k _ => by have := tmod_bd (a k) (d := 51) (by omega); unfold rm; omega

/-- what the loop keeps: two rows of bytes, two blocks that are filled -/
def CI (w : World) (D : Nat) (a b : Nat → Int) (d : Int) (k : Nat) (wr : World) : Prop :=
  wr.heap[w.heap.size]? = some (.cells #[.int .i8 (a 0), .int .i8 (a 1), .int .i8 (a 2), .int .i8 (a 3)] 42 (0, 0)) ∧
  wr.heap[w.heap.size + 1]? = some (.cells #[.int .i8 (b 0), .int .i8 (b 1), .int .i8 (b 2), .int .i8 (b 3)] 42 (0, 0)) ∧
  wr.heap[D]? = some (.cells (q4 (sc (rm d a)) k) 24 (0, 0)) ∧ wr.heap[D + 1]? = some (.cells (q4 (sc (rm d b)) k) 24 (0, 0)) ∧
  Below w.heap.size w wr
theorem CI.step {w wr : World} {D : Nat} {a b : Nat → Int} {d : Int} {k : Nat} (h : CI w D a b d k wr) (hk : k < 4) (hD : w.heap.size + 2 ≤ D) :
    CI w D a b d (k + 1) ((wr.setCell ⟨D, k, none⟩ (.int .i64 (sc (rm d a) k))).setCell ⟨D + 1, k, none⟩ (.int .i64 (sc (rm d b) k))) := by
  obtain ⟨h1, h2, h4, h5, h7⟩ := h
  refine ⟨set_other (set_other h1 (by omega)) (by omega), set_other (set_other h2 (by omega)) (by omega), ?_, ?_, (h7.setCell (p := ⟨D, k, none⟩) (by show w.heap.size ≤ D; omega) _).setCell (p := ⟨D + 1, k, none⟩) (by show w.heap.size ≤ D + 1; omega) _⟩
  · exact set_other (q4_set h4 hk) (by omega)
  · exact q4_set (set_other h5 (by omega)) hk

set_option maxHeartbeats 4000000 in
set_option maxRecDepth 40000 in
theorem quatConjs_walk (a b : Nat → Int) (w : World) (hG : Less w) (ba0 : ∀ i, i < 4 → -128 ≤ a i ∧ a i ≤ 127) (bb0 : ∀ i, i < 4 → -128 ≤ b i ∧ b i ≤ 127) :
    Calls Tryd.prog 8 #[.agg #[.int .i8 (a 0), .int .i8 (a 1), .int .i8 (a 2), .int .i8 (a 3)], .agg #[.int .i8 (b 0), .int .i8 (b 1), .int .i8 (b 2), .int .i8 (b 3)]] w fun e w' => e = .returned (.bool true) ∧ Below w.heap.size w w' := by
  obtain ⟨W, hW⟩ : ∃ W, (w.alloc (.cells #[.int .i8 (a 0), .int .i8 (a 1), .int .i8 (a 2), .int .i8 (a 3)] 42)).alloc (.cells #[.int .i8 (b 0), .int .i8 (b 1), .int .i8 (b 2), .int .i8 (b 3)] 42) = W := ⟨_, rfl⟩
  obtain ⟨g1, g2⟩ := allocs2 w (.cells #[.int .i8 (a 0), .int .i8 (a 1), .int .i8 (a 2), .int .i8 (a 3)] 42) (.cells #[.int .i8 (b 0), .int .i8 (b 1), .int .i8 (b 2), .int .i8 (b 3)] 42)
  have bW := ball2 w (.cells #[.int .i8 (a 0), .int .i8 (a 1), .int .i8 (a 2), .int .i8 (a 3)] 42) (.cells #[.int .i8 (b 0), .int .i8 (b 1), .int .i8 (b 2), .int .i8 (b 3)] 42)
  have sW : W.heap.size = w.heap.size + 2 := by rw [← hW]; simp
  rw [hW] at g1 g2 bW
  have M0 := shown_any W (hG.below bW)
  rw [← hW] at M0
  have HW : Hid (_ = W) := hW
  have SW : Hid _ := sW
  have HG : Hid (Less w) := hG
  clear hW hG sW
  go_enter Tryd.func8, Tryd.ntmps8
  go_wp2_with (go_at_call 10; refine M0.mono ?_; rintro e wa ⟨rfl, ba⟩; rw [HW.out] at ba)
  have hD : Hid (w.heap.size + 2 ≤ wa.heap.size) := by have := ba.size; rw [SW.out] at this; exact this
  have start : Hid (CI w wa.heap.size a b 51 0 ((wa.alloc (.cells #[.int .i64 0, .int .i64 0, .int .i64 0, .int .i64 0] 24)).alloc (.cells #[.int .i64 0, .int .i64 0, .int .i64 0, .int .i64 0] 24))) := by
    obtain ⟨i1, i2⟩ := allocs2 wa (.cells #[.int .i64 0, .int .i64 0, .int .i64 0, .int .i64 0] 24) (.cells #[.int .i64 0, .int .i64 0, .int .i64 0, .int .i64 0] 24)
    have b3 := ball2 wa (.cells #[.int .i64 0, .int .i64 0, .int .i64 0, .int .i64 0] 24) (.cells #[.int .i64 0, .int .i64 0, .int .i64 0, .int .i64 0] 24)
    exact ⟨keep b3 (keep ba g1), keep b3 (keep ba g2), i1, i2, bt (bt bW ba) b3⟩
  clear M0 g1 g2
  go_loopw [8] (fun i wr => ∃ k : Nat, k ≤ 4 ∧ i = .int .i64 k ∧ Hid (CI w wa.heap.size a b 51 k wr)) (fun i _ => 4 - (intOf i).toNat)
  case atStart => exact ⟨0, Nat.zero_le _, rfl, start⟩
  case round =>
    clear start
    obtain ⟨k, hk, rfl, hwi⟩ := hrel
    by_cases hlt : k < 4
    · have hst := CI.step hwi.out hlt hD.out
      obtain ⟨h1, h2, h4, h5, h7⟩ := hwi.out
      have a1 := byte_cell h1 hlt
      have n1 : w.heap.size + 1 ≠ wa.heap.size := by have := hD.out; omega
      have d1 := q4_cell h4 hlt
      have e1 := q4_free (k := k) h4
      have xa := ba0 k hlt
      have xb := bb0 k hlt
      unfold sc rm at hst
      obtain ⟨x, hx⟩ : ∃ x, a k = x := ⟨_, rfl⟩
      obtain ⟨y, hy⟩ : ∃ y, b k = y := ⟨_, rfl⟩
      have a2 : ∀ u, (wr.setCell ⟨wa.heap.size, k, none⟩ u).cell? ⟨w.heap.size + 1, k, none⟩ = some (.int .i8 (b k)) := fun u => set_cell (byte_cell h2 hlt) n1
      have d2 : ∀ u, (wr.setCell ⟨wa.heap.size, k, none⟩ u).cell? ⟨wa.heap.size + 1, k, none⟩ = some (.int .i64 0) := fun u => set_cell (q4_cell h5 hlt) (by omega)
      have e2 : ∀ u, (wr.setCell ⟨wa.heap.size, k, none⟩ u).frozen? ⟨wa.heap.size + 1, k, none⟩ = false := fun u => set_free (q4_free h5) (by omega)
      rw [hx] at a1 xa
      rw [hy] at xb
      simp only [hy] at a2
      simp only [hx, hy] at hst
      clear hx hy h1 h2 h4 h5 h7 hwi ba0 bb0 n1
      obtain ⟨X, hX⟩ : ∃ X, x.tmod 51 = X := ⟨_, rfl⟩
      obtain ⟨Y, hY⟩ : ∃ Y, y.tmod 51 = Y := ⟨_, rfl⟩
      have X1 : -50 ≤ X ∧ X ≤ 50 := by have := tmod_bd x (d := 51) (by omega); omega
      have Y1 : -50 ≤ Y ∧ Y ≤ 50 := by have := tmod_bd y (d := 51) (by omega); omega
      rw [hX, hY] at hst
      have HS : Hid _ := hst
      clear hst
      go_wp2
      go_roundw
      case rel => exact ⟨k + 1, by omega, by go_num, HS.out⟩
      case measure => simp [intOf]; omega
    · have e : k = 4 := by omega
      subst e
      clear ba0 bb0
      obtain ⟨_, _, h4, h5, h7⟩ := hwi.out
      rw [q4_4] at h4 h5
      have hGr : Less wr := fun k i hk hi => by
        rw [h7.cell (p := ⟨0, k * 4 + i, none⟩) (block_lt_of_cell (HG.out k i hk hi))]; exact HG.out k i hk hi
      clear hwi
      have uA := rm_51 a
      have uB := rm_51 b
      obtain ⟨A, hA⟩ : ∃ A, rm 51 a = A := ⟨_, rfl⟩
      obtain ⟨B, hB⟩ : ∃ B, rm 51 b = B := ⟨_, rfl⟩
      rw [hA] at uA h4
      rw [hB] at uB h5
      clear hA hB
      obtain ⟨cA, uA'⟩ := cj_whole uA (by omega)
      obtain ⟨cB, uB'⟩ := cj_whole uB (by omega)
      obtain ⟨t1, _⟩ := qm_whole uA uA' (by omega) (by omega) (by omega)
      obtain ⟨t2, uP⟩ := qm_whole uA uB (by omega) (by omega) (by omega)
      obtain ⟨t3, _⟩ := qm_whole uB' uA' (by omega) (by omega) (by omega)
      obtain ⟨cP, _⟩ := cj_whole uP (by omega)
      obtain ⟨n1, _⟩ := nm_whole uA (by omega) (by omega)
      obtain ⟨s0, s1, s2, s3⟩ := ip_self A
      have rd := ip_round A B
      have M1 : ∀ v, Calls Tryd.prog 17 #[.agg #[.int .i64 (sc A 0), .int .i64 (sc A 1), .int .i64 (sc A 2), .int .i64 (sc A 3)]] v fun e w' => e = .returned (.agg #[.int .i64 (sc (ic A) 0), .int .i64 (sc (ic A) 1), .int .i64 (sc (ic A) 2), .int .i64 (sc (ic A) 3)]) ∧ Below v.heap.size v w' := fun v => by
        have := conj_any (sc A) v
        rw [cA 0 (by omega), cA 1 (by omega), cA 2 (by omega), cA 3 (by omega)] at this
        exact this
      have M2 : ∀ v, Calls Tryd.prog 17 #[.agg #[.int .i64 (sc B 0), .int .i64 (sc B 1), .int .i64 (sc B 2), .int .i64 (sc B 3)]] v fun e w' => e = .returned (.agg #[.int .i64 (sc (ic B) 0), .int .i64 (sc (ic B) 1), .int .i64 (sc (ic B) 2), .int .i64 (sc (ic B) 3)]) ∧ Below v.heap.size v w' := fun v => by
        have := conj_any (sc B) v
        rw [cB 0 (by omega), cB 1 (by omega), cB 2 (by omega), cB 3 (by omega)] at this
        exact this
      have M3 : ∀ v, Less v → Calls Tryd.prog 11 #[.agg #[.int .i64 (sc A 0), .int .i64 (sc A 1), .int .i64 (sc A 2), .int .i64 (sc A 3)], .agg #[.int .i64 (sc (ic A) 0), .int .i64 (sc (ic A) 1), .int .i64 (sc (ic A) 2), .int .i64 (sc (ic A) 3)]] v fun e w' => e = .returned (.tuple #[.agg #[.int .i64 (ism A * 16777216), .int .i64 0, .int .i64 0, .int .i64 0], .bool false]) ∧ Below v.heap.size v w' := fun v hv => by
        have := qmul_any (sc A) (sc (ic A)) v hv
        have e0 : sc (ip A (ic A)) 0 = ism A * 16777216 := by unfold sc; rw [s0]
        have e1 : sc (ip A (ic A)) 1 = 0 := by unfold sc; rw [s1]; rfl
        have e2 : sc (ip A (ic A)) 2 = 0 := by unfold sc; rw [s2]; rfl
        have e3 : sc (ip A (ic A)) 3 = 0 := by unfold sc; rw [s3]; rfl
        rw [(t1 0 (by omega)).1, (t1 1 (by omega)).1, (t1 2 (by omega)).1, (t1 3 (by omega)).1, any4 fun k hk => (t1 k hk).2, e0, e1, e2, e3] at this
        exact this
      have M4 : ∀ v, Less v → Calls Tryd.prog 11 #[.agg #[.int .i64 (sc A 0), .int .i64 (sc A 1), .int .i64 (sc A 2), .int .i64 (sc A 3)], .agg #[.int .i64 (sc B 0), .int .i64 (sc B 1), .int .i64 (sc B 2), .int .i64 (sc B 3)]] v fun e w' => e = .returned (.tuple #[.agg #[.int .i64 (sc (ip A B) 0), .int .i64 (sc (ip A B) 1), .int .i64 (sc (ip A B) 2), .int .i64 (sc (ip A B) 3)], .bool false]) ∧ Below v.heap.size v w' := fun v hv => by
        have := qmul_any (sc A) (sc B) v hv
        rw [(t2 0 (by omega)).1, (t2 1 (by omega)).1, (t2 2 (by omega)).1, (t2 3 (by omega)).1, any4 fun k hk => (t2 k hk).2] at this
        exact this
      have M5 : ∀ v, Less v → Calls Tryd.prog 11 #[.agg #[.int .i64 (sc (ic B) 0), .int .i64 (sc (ic B) 1), .int .i64 (sc (ic B) 2), .int .i64 (sc (ic B) 3)], .agg #[.int .i64 (sc (ic A) 0), .int .i64 (sc (ic A) 1), .int .i64 (sc (ic A) 2), .int .i64 (sc (ic A) 3)]] v fun e w' => e = .returned (.tuple #[.agg #[.int .i64 (sc (ic (ip A B)) 0), .int .i64 (sc (ic (ip A B)) 1), .int .i64 (sc (ic (ip A B)) 2), .int .i64 (sc (ic (ip A B)) 3)], .bool false]) ∧ Below v.heap.size v w' := fun v hv => by
        have := qmul_any (sc (ic B)) (sc (ic A)) v hv
        have e : ∀ k, k < 4 → sc (ip (ic B) (ic A)) k = sc (ic (ip A B)) k := fun k hk => by unfold sc; rw [rd k hk]
        rw [(t3 0 (by omega)).1, (t3 1 (by omega)).1, (t3 2 (by omega)).1, (t3 3 (by omega)).1, any4 fun k hk => (t3 k hk).2, e 0 (by omega), e 1 (by omega), e 2 (by omega), e 3 (by omega)] at this
        exact this
      have M6 : ∀ V d os, Calls Tryd.prog 17 #[.agg #[.int .i64 (sc (ip A B) 0), .int .i64 (sc (ip A B) 1), .int .i64 (sc (ip A B) 2), .int .i64 (sc (ip A B) 3)]] (grow (redrawn V d) os) fun e w'' => e = .returned (.agg #[.int .i64 (sc (ic (ip A B)) 0), .int .i64 (sc (ic (ip A B)) 1), .int .i64 (sc (ic (ip A B)) 2), .int .i64 (sc (ic (ip A B)) 3)]) ∧ ∃ p : Regrown, w'' = grow (redrawn V p.d) p.os := fun V d os => by
        have := conj_calm'' (sc (ip A B)) V d os
        rw [cP 0 (by omega), cP 1 (by omega), cP 2 (by omega), cP 3 (by omega)] at this
        exact this
      have N1 := fun v => norm_any (sc A) v
      simp only [n1] at N1
      obtain ⟨VN, hVN⟩ : ∃ V, ism A * 16777216 = V := ⟨_, rfl⟩
      simp only [hVN] at N1 M3
      clear n1 s0 s1 s2 s3 rd hVN cA cB cP t1 t2 t3 uA uB uA' uB' uP
      obtain ⟨x0, hx0⟩ : ∃ V, sc A 0 = V := ⟨_, rfl⟩
      obtain ⟨x1, hx1⟩ : ∃ V, sc A 1 = V := ⟨_, rfl⟩
      obtain ⟨x2, hx2⟩ : ∃ V, sc A 2 = V := ⟨_, rfl⟩
      obtain ⟨x3, hx3⟩ : ∃ V, sc A 3 = V := ⟨_, rfl⟩
      obtain ⟨y0, hy0⟩ : ∃ V, sc B 0 = V := ⟨_, rfl⟩
      obtain ⟨y1, hy1⟩ : ∃ V, sc B 1 = V := ⟨_, rfl⟩
      obtain ⟨y2, hy2⟩ : ∃ V, sc B 2 = V := ⟨_, rfl⟩
      obtain ⟨y3, hy3⟩ : ∃ V, sc B 3 = V := ⟨_, rfl⟩
      obtain ⟨c0, hc0⟩ : ∃ V, sc (ic A) 0 = V := ⟨_, rfl⟩
      obtain ⟨c1, hc1⟩ : ∃ V, sc (ic A) 1 = V := ⟨_, rfl⟩
      obtain ⟨c2, hc2⟩ : ∃ V, sc (ic A) 2 = V := ⟨_, rfl⟩
      obtain ⟨c3, hc3⟩ : ∃ V, sc (ic A) 3 = V := ⟨_, rfl⟩
      obtain ⟨d0, hd0⟩ : ∃ V, sc (ic B) 0 = V := ⟨_, rfl⟩
      obtain ⟨d1, hd1⟩ : ∃ V, sc (ic B) 1 = V := ⟨_, rfl⟩
      obtain ⟨d2, hd2⟩ : ∃ V, sc (ic B) 2 = V := ⟨_, rfl⟩
      obtain ⟨d3, hd3⟩ : ∃ V, sc (ic B) 3 = V := ⟨_, rfl⟩
      obtain ⟨r0, hr0⟩ : ∃ V, sc (ip A B) 0 = V := ⟨_, rfl⟩
      obtain ⟨r1, hr1⟩ : ∃ V, sc (ip A B) 1 = V := ⟨_, rfl⟩
      obtain ⟨r2, hr2⟩ : ∃ V, sc (ip A B) 2 = V := ⟨_, rfl⟩
      obtain ⟨r3, hr3⟩ : ∃ V, sc (ip A B) 3 = V := ⟨_, rfl⟩
      obtain ⟨s0, hs0⟩ : ∃ V, sc (ic (ip A B)) 0 = V := ⟨_, rfl⟩
      obtain ⟨s1, hs1⟩ : ∃ V, sc (ic (ip A B)) 1 = V := ⟨_, rfl⟩
      obtain ⟨s2, hs2⟩ : ∃ V, sc (ic (ip A B)) 2 = V := ⟨_, rfl⟩
      obtain ⟨s3, hs3⟩ : ∃ V, sc (ic (ip A B)) 3 = V := ⟨_, rfl⟩
      rw [hx0, hx1, hx2, hx3] at h4
      rw [hy0, hy1, hy2, hy3] at h5
      simp only [hx0, hx1, hx2, hx3, hc0, hc1, hc2, hc3] at M1
      simp only [hy0, hy1, hy2, hy3, hd0, hd1, hd2, hd3] at M2
      simp only [hx0, hx1, hx2, hx3, hc0, hc1, hc2, hc3] at M3
      simp only [hx0, hx1, hx2, hx3, hy0, hy1, hy2, hy3, hr0, hr1, hr2, hr3] at M4
      simp only [hd0, hd1, hd2, hd3, hc0, hc1, hc2, hc3, hs0, hs1, hs2, hs3] at M5
      simp only [hr0, hr1, hr2, hr3, hs0, hs1, hs2, hs3] at M6
      simp only [hx0, hx1, hx2, hx3] at N1
      clear hx0 hx1 hx2 hx3 hy0 hy1 hy2 hy3 hc0 hc1 hc2 hc3 hd0 hd1 hd2 hd3 hr0 hr1 hr2 hr3 hs0 hs1 hs2 hs3
      go_wp2
      refine cjA_region (r0 := VN) (r1 := 0) (r2 := 0) (r3 := 0) (X := false) h4 (fun v _ => M1 v) (fun v hv => M3 v (hGr.below hv)) ?_
      intro vs D wb bb e9 e10 gD
      unfold cjAFr
      rw [e9, e10]
      obtain ⟨i0, i1, i2, i3, _⟩ := four_cells (keep bb h4)
      obtain ⟨D0, D1, D2, D3, _⟩ := four_cells gD
      go_wp2_with (first
        | (go_at_call 13; refine (N1 _).mono ?_; rintro e wc ⟨rfl, bc⟩; have bc1 := bt bb bc; have gD1 := keep bc gD; obtain ⟨j0, j1, j2, j3, _⟩ := four_cells (keep bc1 h4); obtain ⟨k0, k1, k2, k3, _⟩ := four_cells (keep bc1 h5))
        | (go_at_call 11; refine (M4 _ (hGr.below bc1)).mono ?_; rintro e wd ⟨rfl, bd⟩; have bd1 := bt bc1 bd; have bd2 := bd1.alloc bd1.size (.cells #[.int .i64 r0, .int .i64 r1, .int .i64 r2, .int .i64 r3] 24); have gD2 := heap_old (keep bd gD1) (.cells #[.int .i64 r0, .int .i64 r1, .int .i64 r2, .int .i64 r3] 24); have gR := heap_new wd (.cells #[.int .i64 r0, .int .i64 r1, .int .i64 r2, .int .i64 r3] 24)))
      refine cjB_region (X := false) (keep bd2 h4) (keep bd2 h5) (fun v _ => M2 v) (fun v _ => M1 v) (fun v hv => M5 v (hGr.below (bt bd2 hv))) ?_
      intro vt E we be e15 e16 gE
      unfold cjBFr
      rw [e15, e16]
      have be1 := bt bd2 be
      obtain ⟨P0, P1, P2, P3, _⟩ := four_cells (keep be gD2)
      obtain ⟨Q0, Q1, Q2, Q3, _⟩ := four_cells (keep be gR)
      obtain ⟨R0, R1, R2, R3, _⟩ := four_cells gE
      have P0 := cell_regrown P0
      have P1 := cell_regrown P1
      have P2 := cell_regrown P2
      have P3 := cell_regrown P3
      have Q0 := cell_regrown Q0
      have Q1 := cell_regrown Q1
      have Q2 := cell_regrown Q2
      have Q3 := cell_regrown Q3
      have R0 := cell_regrown R0
      have R1 := cell_regrown R1
      have R2 := cell_regrown R2
      have R3 := cell_regrown R3
      have M7 := M6 we
      have q4' := run_eq4
      have z4 := guard24
      have s4 := eq4_self
      clear M6 M5 M4 M3 M2 M1 N1 i0 i1 i2 i3 j0 j1 j2 j3 k0 k1 k2 k3 D0 D1 D2 D3 gD gD1 gD2 gR gE e9 e10 e15 e16
      go_wp2
      refine wp_region_quiet_below (by kernel_rfl) (by kernel_rfl) ?_
      repeat (quiet_step (first | (go_at_call 17; exact M7 _ _)))
      refine wpQuiet_nil ?_
      intro _ hw'
      obtain ⟨⟨dq, osq⟩, hw''⟩ := hw'
      subst hw''
      go_wp2
      go_ret
      exact ⟨rfl, (h7.trans (be1.mono h7.size)).trans ((below_regrown we dq osq).mono (h7.trans (be1.mono h7.size)).size)⟩
end Go.Proofs.YtgekignonjfaiaaDoor
