/-
  The walk of QuatWholes.
-/
import Derived.Test.YtgekignonjfaiaaDoorQSh
import Derived.Test.YtgekignonjfaiaaDoorQH
namespace Go.Proofs.YtgekignonjfaiaaDoor
open Go.RowKit Go.Sort Qm

namespace Qm
/-- the whole numbers that are made of the bytes -/
def rm (d : Int) (a : Nat → Int) (k : Nat) : Int := (a k).tmod d
theorem tmod_bd (x : Int) {d : Int} (hd : 0 < d) : -(d - 1) ≤ x.tmod d ∧ x.tmod d ≤ d - 1 := by
  have h1 := Int.tmod_lt_of_pos x hd
  have h2 := Int.tmod_lt_of_pos (-x) hd
  rw [Int.neg_tmod] at h2
  omega
theorem rm_8 (a : Nat → Int) : Upto 7 (rm 8 a) := fun k _ => by have := tmod_bd (a k) (d := 8) (by omega); unfold rm; omega
end Qm

/-- what the loop keeps: three rows of bytes, three blocks that are filled -/
def WI (w : World) (D : Nat) (a b c : Nat → Int) (d : Int) (k : Nat) (wr : World) : Prop :=
  wr.heap[w.heap.size]? = some (.cells #[.int .i8 (a 0), .int .i8 (a 1), .int .i8 (a 2), .int .i8 (a 3)] 42 (0, 0)) ∧
  wr.heap[w.heap.size + 1]? = some (.cells #[.int .i8 (b 0), .int .i8 (b 1), .int .i8 (b 2), .int .i8 (b 3)] 42 (0, 0)) ∧
  wr.heap[w.heap.size + 1 + 1]? = some (.cells #[.int .i8 (c 0), .int .i8 (c 1), .int .i8 (c 2), .int .i8 (c 3)] 42 (0, 0)) ∧
  wr.heap[D]? = some (.cells (q4 (sc (rm d a)) k) 24 (0, 0)) ∧ wr.heap[D + 1]? = some (.cells (q4 (sc (rm d b)) k) 24 (0, 0)) ∧ wr.heap[D + 1 + 1]? = some (.cells (q4 (sc (rm d c)) k) 24 (0, 0)) ∧
  Below w.heap.size w wr
theorem byte_cell {w : World} {B k : Nat} {a : Nat → Int} {t : TypeId} (h : w.heap[B]? = some (.cells #[.int .i8 (a 0), .int .i8 (a 1), .int .i8 (a 2), .int .i8 (a 3)] t (0, 0))) (hk : k < 4) : w.cell? ⟨B, k, none⟩ = some (.int .i8 (a k)) := by
  obtain ⟨c0, c1, c2, c3, _⟩ := four_cells h
  have h1 : k = 0 ∨ k = 1 ∨ k = 2 ∨ k = 3 := by omega
  rcases h1 with rfl | rfl | rfl | rfl
  · exact c0
  · exact c1
  · exact c2
  · exact c3
theorem set_cell {w : World} {B C k j : Nat} {v u : Value} (h : w.cell? ⟨B, k, none⟩ = some v) (hn : B ≠ C) : (w.setCell ⟨C, j, none⟩ u).cell? ⟨B, k, none⟩ = some v := by
  rw [World.cell?_of_block (w := w) (Below.heap_setCell _ _ _ _ hn)]; exact h
theorem set_free {w : World} {B C k j : Nat} {u : Value} (h : w.frozen? ⟨B, k, none⟩ = false) (hn : B ≠ C) : (w.setCell ⟨C, j, none⟩ u).frozen? ⟨B, k, none⟩ = false := by
  unfold World.frozen? at h ⊢
  rw [Below.heap_setCell _ _ _ _ hn]; exact h
theorem WI.step {w wr : World} {D : Nat} {a b c : Nat → Int} {d : Int} {k : Nat} (h : WI w D a b c d k wr) (hk : k < 4) (hD : w.heap.size + 3 ≤ D) :
    WI w D a b c d (k + 1) (((wr.setCell ⟨D, k, none⟩ (.int .i64 (sc (rm d a) k))).setCell ⟨D + 1, k, none⟩ (.int .i64 (sc (rm d b) k))).setCell ⟨D + 1 + 1, k, none⟩ (.int .i64 (sc (rm d c) k))) := by
  obtain ⟨h1, h2, h3, h4, h5, h6, h7⟩ := h
  refine ⟨set_other (set_other (set_other h1 (by omega)) (by omega)) (by omega), set_other (set_other (set_other h2 (by omega)) (by omega)) (by omega), set_other (set_other (set_other h3 (by omega)) (by omega)) (by omega), ?_, ?_, ?_, ((h7.setCell (p := ⟨D, k, none⟩) (by show w.heap.size ≤ D; omega) _).setCell (p := ⟨D + 1, k, none⟩) (by show w.heap.size ≤ D + 1; omega) _).setCell (p := ⟨D + 1 + 1, k, none⟩) (by show w.heap.size ≤ D + 1 + 1; omega) _⟩
  · exact set_other (set_other (q4_set h4 hk) (by omega)) (by omega)
  · exact set_other (q4_set (set_other h5 (by omega)) hk) (by omega)
  · exact q4_set (set_other (set_other h6 (by omega)) (by omega)) hk

set_option maxHeartbeats 4000000 in
set_option maxRecDepth 20000 in
theorem quatWholes_walk (a b c : Nat → Int) (w : World) (hG : Less w) (ba0 : ∀ i, i < 4 → -128 ≤ a i ∧ a i ≤ 127) (bb0 : ∀ i, i < 4 → -128 ≤ b i ∧ b i ≤ 127) (bc0 : ∀ i, i < 4 → -128 ≤ c i ∧ c i ≤ 127) :
    Calls Tryd.prog 7 #[.agg #[.int .i8 (a 0), .int .i8 (a 1), .int .i8 (a 2), .int .i8 (a 3)], .agg #[.int .i8 (b 0), .int .i8 (b 1), .int .i8 (b 2), .int .i8 (b 3)], .agg #[.int .i8 (c 0), .int .i8 (c 1), .int .i8 (c 2), .int .i8 (c 3)]] w fun e w' => e = .returned (.bool true) ∧ Below w.heap.size w w' := by
  obtain ⟨W, hW⟩ : ∃ W, ((w.alloc (.cells #[.int .i8 (a 0), .int .i8 (a 1), .int .i8 (a 2), .int .i8 (a 3)] 42)).alloc (.cells #[.int .i8 (b 0), .int .i8 (b 1), .int .i8 (b 2), .int .i8 (b 3)] 42)).alloc (.cells #[.int .i8 (c 0), .int .i8 (c 1), .int .i8 (c 2), .int .i8 (c 3)] 42) = W := ⟨_, rfl⟩
  obtain ⟨g1, g2, g3⟩ := allocs3 w (.cells #[.int .i8 (a 0), .int .i8 (a 1), .int .i8 (a 2), .int .i8 (a 3)] 42) (.cells #[.int .i8 (b 0), .int .i8 (b 1), .int .i8 (b 2), .int .i8 (b 3)] 42) (.cells #[.int .i8 (c 0), .int .i8 (c 1), .int .i8 (c 2), .int .i8 (c 3)] 42)
  have bW := ball3 w (.cells #[.int .i8 (a 0), .int .i8 (a 1), .int .i8 (a 2), .int .i8 (a 3)] 42) (.cells #[.int .i8 (b 0), .int .i8 (b 1), .int .i8 (b 2), .int .i8 (b 3)] 42) (.cells #[.int .i8 (c 0), .int .i8 (c 1), .int .i8 (c 2), .int .i8 (c 3)] 42)
  have sW : W.heap.size = w.heap.size + 3 := by rw [← hW]; simp
  rw [hW] at g1 g2 g3 bW
  have hGW := hG.below bW
  have M0 := shown_any W hGW
  rw [← hW] at M0
  have HW : Hid (_ = W) := hW
  have SW : Hid _ := sW
  have HG : Hid (Less w) := hG
  clear hW hG sW hGW
  go_enter Tryd.func7, Tryd.ntmps7
  go_wp2_with (go_at_call 10; refine M0.mono ?_; rintro e wa ⟨rfl, ba⟩; rw [HW.out] at ba)
  have hD : Hid (w.heap.size + 3 ≤ wa.heap.size) := by have := ba.size; rw [SW.out] at this; exact this
  have start : Hid (WI w wa.heap.size a b c 8 0 (((wa.alloc (.cells #[.int .i64 0, .int .i64 0, .int .i64 0, .int .i64 0] 24)).alloc (.cells #[.int .i64 0, .int .i64 0, .int .i64 0, .int .i64 0] 24)).alloc (.cells #[.int .i64 0, .int .i64 0, .int .i64 0, .int .i64 0] 24))) := by
    obtain ⟨i1, i2, i3⟩ := allocs3 wa (.cells #[.int .i64 0, .int .i64 0, .int .i64 0, .int .i64 0] 24) (.cells #[.int .i64 0, .int .i64 0, .int .i64 0, .int .i64 0] 24) (.cells #[.int .i64 0, .int .i64 0, .int .i64 0, .int .i64 0] 24)
    have b3 := ball3 wa (.cells #[.int .i64 0, .int .i64 0, .int .i64 0, .int .i64 0] 24) (.cells #[.int .i64 0, .int .i64 0, .int .i64 0, .int .i64 0] 24) (.cells #[.int .i64 0, .int .i64 0, .int .i64 0, .int .i64 0] 24)
    exact ⟨keep b3 (keep ba g1), keep b3 (keep ba g2), keep b3 (keep ba g3), i1, i2, i3, bt (bt bW ba) b3⟩
  clear M0 g1 g2 g3
  go_loopw [11] (fun i wr => ∃ k : Nat, k ≤ 4 ∧ i = .int .i64 k ∧ Hid (WI w wa.heap.size a b c 8 k wr)) (fun i _ => 4 - (intOf i).toNat)
  case atStart => exact ⟨0, Nat.zero_le _, rfl, start⟩
  case round =>
    clear start
    obtain ⟨k, hk, rfl, hwi⟩ := hrel
    by_cases hlt : k < 4
    · have hst := WI.step hwi.out hlt hD.out
      obtain ⟨h1, h2, h3, h4, h5, h6, h7⟩ := hwi.out
      have a1 := byte_cell h1 hlt
      have n1 : w.heap.size + 1 ≠ wa.heap.size := by have := hD.out; omega
      have n2 : w.heap.size + 1 + 1 ≠ wa.heap.size := by have := hD.out; omega
      have n3 : w.heap.size + 1 + 1 ≠ wa.heap.size + 1 := by have := hD.out; omega
      have d1 := q4_cell h4 hlt
      have e1 := q4_free (k := k) h4
      have xa := ba0 k hlt
      have xb := bb0 k hlt
      have xc := bc0 k hlt
      unfold sc rm at hst
      obtain ⟨x, hx⟩ : ∃ x, a k = x := ⟨_, rfl⟩
      obtain ⟨y, hy⟩ : ∃ y, b k = y := ⟨_, rfl⟩
      obtain ⟨z, hz⟩ : ∃ z, c k = z := ⟨_, rfl⟩
      have a2 : ∀ u, (wr.setCell ⟨wa.heap.size, k, none⟩ u).cell? ⟨w.heap.size + 1, k, none⟩ = some (.int .i8 (b k)) := fun u => set_cell (byte_cell h2 hlt) n1
      have a3 : ∀ u u', ((wr.setCell ⟨wa.heap.size, k, none⟩ u).setCell ⟨wa.heap.size + 1, k, none⟩ u').cell? ⟨w.heap.size + 1 + 1, k, none⟩ = some (.int .i8 (c k)) := fun u u' => set_cell (set_cell (byte_cell h3 hlt) n2) n3
      have d2 : ∀ u, (wr.setCell ⟨wa.heap.size, k, none⟩ u).cell? ⟨wa.heap.size + 1, k, none⟩ = some (.int .i64 0) := fun u => set_cell (q4_cell h5 hlt) (by omega)
      have e2 : ∀ u, (wr.setCell ⟨wa.heap.size, k, none⟩ u).frozen? ⟨wa.heap.size + 1, k, none⟩ = false := fun u => set_free (q4_free h5) (by omega)
      have d3 : ∀ u u', ((wr.setCell ⟨wa.heap.size, k, none⟩ u).setCell ⟨wa.heap.size + 1, k, none⟩ u').cell? ⟨wa.heap.size + 1 + 1, k, none⟩ = some (.int .i64 0) := fun u u' => set_cell (set_cell (q4_cell h6 hlt) (by omega)) (by omega)
      have e3 : ∀ u u', ((wr.setCell ⟨wa.heap.size, k, none⟩ u).setCell ⟨wa.heap.size + 1, k, none⟩ u').frozen? ⟨wa.heap.size + 1 + 1, k, none⟩ = false := fun u u' => set_free (set_free (q4_free h6) (by omega)) (by omega)
      rw [hx] at a1 xa
      rw [hy] at xb
      rw [hz] at xc
      simp only [hy] at a2
      simp only [hz] at a3
      simp only [hx, hy, hz] at hst
      clear hx hy hz h1 h2 h3 h4 h5 h6 h7 hwi ba0 bb0 bc0 n1 n2 n3
      obtain ⟨X, hX⟩ : ∃ X, x.tmod 8 = X := ⟨_, rfl⟩
      obtain ⟨Y, hY⟩ : ∃ Y, y.tmod 8 = Y := ⟨_, rfl⟩
      obtain ⟨Z, hZ⟩ : ∃ Z, z.tmod 8 = Z := ⟨_, rfl⟩
      have X1 : -7 ≤ X ∧ X ≤ 7 := by have := tmod_bd x (d := 8) (by omega); omega
      have Y1 : -7 ≤ Y ∧ Y ≤ 7 := by have := tmod_bd y (d := 8) (by omega); omega
      have Z1 : -7 ≤ Z ∧ Z ≤ 7 := by have := tmod_bd z (d := 8) (by omega); omega
      rw [hX, hY, hZ] at hst
      have HS : Hid _ := hst
      clear hst
      go_wp2
      go_roundw
      case rel => exact ⟨k + 1, by omega, by go_num, HS.out⟩
      case measure => simp [intOf]; omega
    · have e : k = 4 := by omega
      subst e
      clear ba0 bb0 bc0
      obtain ⟨_, _, _, h4, h5, h6, h7⟩ := hwi.out
      rw [q4_4] at h4 h5 h6
      have hGr : Less wr := fun k i hk hi => by
        rw [h7.cell (p := ⟨0, k * 4 + i, none⟩) (block_lt_of_cell (HG.out k i hk hi))]; exact HG.out k i hk hi
      clear hwi
      have uA := rm_8 a
      have uB := rm_8 b
      have uC := rm_8 c
      obtain ⟨A, hA⟩ : ∃ A, rm 8 a = A := ⟨_, rfl⟩
      obtain ⟨B, hB⟩ : ∃ B, rm 8 b = B := ⟨_, rfl⟩
      obtain ⟨C, hC⟩ : ∃ C, rm 8 c = C := ⟨_, rfl⟩
      rw [hA] at uA h4
      rw [hB] at uB h5
      rw [hC] at uC h6
      clear hA hB hC
      obtain ⟨t1, uX⟩ := qm_whole uA uB (by omega) (by omega) (by omega)
      obtain ⟨t3, uZ⟩ := qm_whole uB uC (by omega) (by omega) (by omega)
      obtain ⟨t2, _⟩ := qm_whole uX uC (by omega) (by omega) (by omega)
      obtain ⟨t4, _⟩ := qm_whole uA uZ (by omega) (by omega) (by omega)
      have asc := ip_assoc A B C
      obtain ⟨n1, _, n2, n3⟩ := nm_whole uA (by omega) (by omega)
      obtain ⟨n4, _, n5, n6⟩ := nm_whole uB (by omega) (by omega)
      obtain ⟨n7, _, n8, n9⟩ := nm_whole uX (by omega) (by omega)
      have nn := ip_norm A B
      have M1 : ∀ v, Less v → Calls Tryd.prog 11 #[.agg #[.int .i64 (sc A 0), .int .i64 (sc A 1), .int .i64 (sc A 2), .int .i64 (sc A 3)], .agg #[.int .i64 (sc B 0), .int .i64 (sc B 1), .int .i64 (sc B 2), .int .i64 (sc B 3)]] v fun e w' => e = .returned (.tuple #[.agg #[.int .i64 (sc (ip A B) 0), .int .i64 (sc (ip A B) 1), .int .i64 (sc (ip A B) 2), .int .i64 (sc (ip A B) 3)], .bool false]) ∧ Below v.heap.size v w' := fun v hv => by
        have := qmul_any (sc A) (sc B) v hv
        rw [(t1 0 (by omega)).1, (t1 1 (by omega)).1, (t1 2 (by omega)).1, (t1 3 (by omega)).1, any4 fun k hk => (t1 k hk).2] at this
        exact this
      have M2 : ∀ v, Less v → Calls Tryd.prog 11 #[.agg #[.int .i64 (sc (ip A B) 0), .int .i64 (sc (ip A B) 1), .int .i64 (sc (ip A B) 2), .int .i64 (sc (ip A B) 3)], .agg #[.int .i64 (sc C 0), .int .i64 (sc C 1), .int .i64 (sc C 2), .int .i64 (sc C 3)]] v fun e w' => e = .returned (.tuple #[.agg #[.int .i64 (sc (ip (ip A B) C) 0), .int .i64 (sc (ip (ip A B) C) 1), .int .i64 (sc (ip (ip A B) C) 2), .int .i64 (sc (ip (ip A B) C) 3)], .bool false]) ∧ Below v.heap.size v w' := fun v hv => by
        have := qmul_any (sc (ip A B)) (sc C) v hv
        rw [(t2 0 (by omega)).1, (t2 1 (by omega)).1, (t2 2 (by omega)).1, (t2 3 (by omega)).1, any4 fun k hk => (t2 k hk).2] at this
        exact this
      have M3 : ∀ v, Less v → Calls Tryd.prog 11 #[.agg #[.int .i64 (sc B 0), .int .i64 (sc B 1), .int .i64 (sc B 2), .int .i64 (sc B 3)], .agg #[.int .i64 (sc C 0), .int .i64 (sc C 1), .int .i64 (sc C 2), .int .i64 (sc C 3)]] v fun e w' => e = .returned (.tuple #[.agg #[.int .i64 (sc (ip B C) 0), .int .i64 (sc (ip B C) 1), .int .i64 (sc (ip B C) 2), .int .i64 (sc (ip B C) 3)], .bool false]) ∧ Below v.heap.size v w' := fun v hv => by
        have := qmul_any (sc B) (sc C) v hv
        rw [(t3 0 (by omega)).1, (t3 1 (by omega)).1, (t3 2 (by omega)).1, (t3 3 (by omega)).1, any4 fun k hk => (t3 k hk).2] at this
        exact this
      have M4 : ∀ v, Less v → Calls Tryd.prog 11 #[.agg #[.int .i64 (sc A 0), .int .i64 (sc A 1), .int .i64 (sc A 2), .int .i64 (sc A 3)], .agg #[.int .i64 (sc (ip B C) 0), .int .i64 (sc (ip B C) 1), .int .i64 (sc (ip B C) 2), .int .i64 (sc (ip B C) 3)]] v fun e w' => e = .returned (.tuple #[.agg #[.int .i64 (sc (ip (ip A B) C) 0), .int .i64 (sc (ip (ip A B) C) 1), .int .i64 (sc (ip (ip A B) C) 2), .int .i64 (sc (ip (ip A B) C) 3)], .bool false]) ∧ Below v.heap.size v w' := fun v hv => by
        have := qmul_any (sc A) (sc (ip B C)) v hv
        have e : ∀ k, k < 4 → sc (ip A (ip B C)) k = sc (ip (ip A B) C) k := fun k hk => by unfold sc; rw [asc k hk]
        rw [(t4 0 (by omega)).1, (t4 1 (by omega)).1, (t4 2 (by omega)).1, (t4 3 (by omega)).1, any4 fun k hk => (t4 k hk).2, e 0 (by omega), e 1 (by omega), e 2 (by omega), e 3 (by omega)] at this
        exact this
      have N1 := fun v => norm_any (sc A) v
      have N2 := fun v => norm_any (sc B) v
      have N3 := fun v => norm_any (sc (ip A B)) v
      rw [nn] at n7
      simp only [n1] at N1
      simp only [n4] at N2
      simp only [n7] at N3
      rw [nn] at n8 n9
      obtain ⟨P, hP⟩ : ∃ P, ism A = P := ⟨_, rfl⟩
      obtain ⟨Q, hQ⟩ : ∃ Q, ism B = Q := ⟨_, rfl⟩
      rw [hP] at n2 n3 n8 n9
      rw [hQ] at n5 n6 n8 n9
      simp only [hP] at N1 N3
      simp only [hQ] at N2 N3
      obtain ⟨R, hR⟩ : ∃ R, P * Q = R := ⟨_, rfl⟩
      rw [hR] at n8 n9
      simp only [hR] at N3
      obtain ⟨VP, hVP⟩ : ∃ V, P * 16777216 = V := ⟨_, rfl⟩
      obtain ⟨VQ, hVQ⟩ : ∃ V, Q * 16777216 = V := ⟨_, rfl⟩
      obtain ⟨VR, hVR⟩ : ∃ V, R * 16777216 = V := ⟨_, rfl⟩
      simp only [hVP] at N1
      simp only [hVQ] at N2
      simp only [hVR] at N3
      have d1 : VP.tdiv 16777216 = P := by rw [← hVP]; exact Int.mul_tdiv_cancel _ (by omega)
      have d2 : VQ.tdiv 16777216 = Q := by rw [← hVQ]; exact Int.mul_tdiv_cancel _ (by omega)
      have d3 : VR.tdiv 16777216 = R := by rw [← hVR]; exact Int.mul_tdiv_cancel _ (by omega)
      clear hP hQ hVP hVQ hVR n1 n4 n7 nn asc t1 t2 t3 t4 uA uB uC uX uZ
      obtain ⟨x0, hx0⟩ : ∃ V, sc A 0 = V := ⟨_, rfl⟩
      obtain ⟨x1, hx1⟩ : ∃ V, sc A 1 = V := ⟨_, rfl⟩
      obtain ⟨x2, hx2⟩ : ∃ V, sc A 2 = V := ⟨_, rfl⟩
      obtain ⟨x3, hx3⟩ : ∃ V, sc A 3 = V := ⟨_, rfl⟩
      obtain ⟨y0, hy0⟩ : ∃ V, sc B 0 = V := ⟨_, rfl⟩
      obtain ⟨y1, hy1⟩ : ∃ V, sc B 1 = V := ⟨_, rfl⟩
      obtain ⟨y2, hy2⟩ : ∃ V, sc B 2 = V := ⟨_, rfl⟩
      obtain ⟨y3, hy3⟩ : ∃ V, sc B 3 = V := ⟨_, rfl⟩
      obtain ⟨z0, hz0⟩ : ∃ V, sc C 0 = V := ⟨_, rfl⟩
      obtain ⟨z1, hz1⟩ : ∃ V, sc C 1 = V := ⟨_, rfl⟩
      obtain ⟨z2, hz2⟩ : ∃ V, sc C 2 = V := ⟨_, rfl⟩
      obtain ⟨z3, hz3⟩ : ∃ V, sc C 3 = V := ⟨_, rfl⟩
      obtain ⟨r0, hr0⟩ : ∃ V, sc (ip A B) 0 = V := ⟨_, rfl⟩
      obtain ⟨r1, hr1⟩ : ∃ V, sc (ip A B) 1 = V := ⟨_, rfl⟩
      obtain ⟨r2, hr2⟩ : ∃ V, sc (ip A B) 2 = V := ⟨_, rfl⟩
      obtain ⟨r3, hr3⟩ : ∃ V, sc (ip A B) 3 = V := ⟨_, rfl⟩
      obtain ⟨s0, hs0⟩ : ∃ V, sc (ip B C) 0 = V := ⟨_, rfl⟩
      obtain ⟨s1, hs1⟩ : ∃ V, sc (ip B C) 1 = V := ⟨_, rfl⟩
      obtain ⟨s2, hs2⟩ : ∃ V, sc (ip B C) 2 = V := ⟨_, rfl⟩
      obtain ⟨s3, hs3⟩ : ∃ V, sc (ip B C) 3 = V := ⟨_, rfl⟩
      obtain ⟨t0, ht0⟩ : ∃ V, sc (ip (ip A B) C) 0 = V := ⟨_, rfl⟩
      obtain ⟨t1, ht1⟩ : ∃ V, sc (ip (ip A B) C) 1 = V := ⟨_, rfl⟩
      obtain ⟨t2, ht2⟩ : ∃ V, sc (ip (ip A B) C) 2 = V := ⟨_, rfl⟩
      obtain ⟨t3, ht3⟩ : ∃ V, sc (ip (ip A B) C) 3 = V := ⟨_, rfl⟩
      rw [hx0, hx1, hx2, hx3] at h4
      rw [hy0, hy1, hy2, hy3] at h5
      rw [hz0, hz1, hz2, hz3] at h6
      simp only [hx0, hx1, hx2, hx3, hy0, hy1, hy2, hy3, hr0, hr1, hr2, hr3] at M1
      simp only [hr0, hr1, hr2, hr3, hz0, hz1, hz2, hz3, ht0, ht1, ht2, ht3] at M2
      simp only [hy0, hy1, hy2, hy3, hz0, hz1, hz2, hz3, hs0, hs1, hs2, hs3] at M3
      simp only [hx0, hx1, hx2, hx3, hs0, hs1, hs2, hs3, ht0, ht1, ht2, ht3] at M4
      simp only [hx0, hx1, hx2, hx3] at N1
      simp only [hy0, hy1, hy2, hy3] at N2
      simp only [hr0, hr1, hr2, hr3] at N3
      clear hx0 hx1 hx2 hx3 hy0 hy1 hy2 hy3 hz0 hz1 hz2 hz3 hr0 hr1 hr2 hr3 hs0 hs1 hs2 hs3 ht0 ht1 ht2 ht3
      have KP : Hid (∀ v, Below wr.heap.size wr v → _) := fun v hv => four_cells (keep hv h4)
      have KQ : Hid (∀ v, Below wr.heap.size wr v → _) := fun v hv => four_cells (keep hv h5)
      have KR : Hid (∀ v, Below wr.heap.size wr v → _) := fun v hv => four_cells (keep hv h6)
      obtain ⟨i0, i1, i2, i3, _⟩ := four_cells h4
      obtain ⟨j0, j1, j2, j3, _⟩ := four_cells h5
      have q4' := run_eq4
      have z4 := guard24
      have s4 := eq4_self
      go_wp2_with (first
        | (go_at_call_of 11 (Value.int IntKind.i64 r1); refine (M2 _ (hGr.below ba2)).mono ?_; rintro e wb ⟨rfl, bb⟩; have bb1 := bt ba2 bb; have bb2 := bb1.alloc bb1.size (.cells #[.int .i64 t0, .int .i64 t1, .int .i64 t2, .int .i64 t3] 24); have gT := heap_new wb (.cells #[.int .i64 t0, .int .i64 t1, .int .i64 t2, .int .i64 t3] 24); have gR2 := heap_old (keep bb gR) (.cells #[.int .i64 t0, .int .i64 t1, .int .i64 t2, .int .i64 t3] 24); obtain ⟨l0, l1, l2, l3, _⟩ := KQ.out _ bb2; obtain ⟨m0, m1, m2, m3, _⟩ := KR.out _ bb2)
        | (go_at_call_of 11 (Value.int IntKind.i64 s1); refine (M4 _ (hGr.below bc2)).mono ?_; rintro e wd ⟨rfl, bd⟩; have bd1 := bt bc2 bd; have bd2 := bd1.alloc bd1.size (.cells #[.int .i64 t0, .int .i64 t1, .int .i64 t2, .int .i64 t3] 24); have gU := heap_new wd (.cells #[.int .i64 t0, .int .i64 t1, .int .i64 t2, .int .i64 t3] 24); have gR4 := heap_old (keep bd gR3) (.cells #[.int .i64 t0, .int .i64 t1, .int .i64 t2, .int .i64 t3] 24); have gT3 := heap_old (keep bd gT2) (.cells #[.int .i64 t0, .int .i64 t1, .int .i64 t2, .int .i64 t3] 24); obtain ⟨v0, v1, v2, v3, _⟩ := KP.out _ bd2)
        | (go_at_call_of 11 (Value.int IntKind.i64 x1); refine (M1 _ hGr).mono ?_; rintro e wa' ⟨rfl, ba1⟩; have ba2 := ba1.alloc ba1.size (.cells #[.int .i64 r0, .int .i64 r1, .int .i64 r2, .int .i64 r3] 24); have gR := heap_new wa' (.cells #[.int .i64 r0, .int .i64 r1, .int .i64 r2, .int .i64 r3] 24); obtain ⟨k0, k1, k2, k3, _⟩ := four_cells gR; obtain ⟨o0, o1, o2, o3, _⟩ := KR.out _ ba2)
        | (go_at_call 11; refine (M3 _ (hGr.below bb2)).mono ?_; rintro e wc ⟨rfl, bc⟩; have bc1 := bt bb2 bc; have bc2 := bc1.alloc bc1.size (.cells #[.int .i64 s0, .int .i64 s1, .int .i64 s2, .int .i64 s3] 24); have gS := heap_new wc (.cells #[.int .i64 s0, .int .i64 s1, .int .i64 s2, .int .i64 s3] 24); have gR3 := heap_old (keep bc gR2) (.cells #[.int .i64 s0, .int .i64 s1, .int .i64 s2, .int .i64 s3] 24); have gT2 := heap_old (keep bc gT) (.cells #[.int .i64 s0, .int .i64 s1, .int .i64 s2, .int .i64 s3] 24); obtain ⟨p0, p1, p2, p3, _⟩ := KP.out _ bc2; obtain ⟨q0, q1, q2, q3, _⟩ := four_cells gS)
        | (go_at_call_of 13 (Value.int IntKind.i64 x1); refine (N1 _).mono ?_; rintro e we ⟨rfl, be⟩; have be1 := bt bd2 be; have gR5 := keep be gR4; have gT4 := keep be gT3; have gU2 := keep be gU; obtain ⟨f0, f1, f2, f3, _⟩ := KQ.out _ be1)
        | (go_at_call_of 13 (Value.int IntKind.i64 y1); refine (N2 _).mono ?_; rintro e wf ⟨rfl, bf⟩; have bf1 := bt be1 bf; have gR6 := keep bf gR5; have gT5 := keep bf gT4; have gU3 := keep bf gU2; obtain ⟨a0, a1, a2, a3, _⟩ := four_cells gR6)
        | (go_at_call 13; refine (N3 _).mono ?_; rintro e wg ⟨rfl, bg⟩; have bg1 := bt bf1 bg; obtain ⟨b0, b1, b2, b3, _⟩ := four_cells (keep bg gT5); obtain ⟨c0, c1, c2, c3, _⟩ := four_cells (keep bg gU3)))
      go_ret
      exact ⟨rfl, h7.trans (bg1.mono h7.size)⟩
end Go.Proofs.YtgekignonjfaiaaDoor
