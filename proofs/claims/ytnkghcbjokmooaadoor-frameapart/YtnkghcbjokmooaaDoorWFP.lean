/-
  The walk of FrameApart.
-/
import Derived.Test.YtnkghcbjokmooaaDoorFA
import Derived.Laws.IdiomStrings
import Derived.Laws.Strings
namespace Go.Proofs.YtnkghcbjokmooaaDoor.Gr
open Go.RowKit Go.Sort Qm
set_option linter.unusedVariables false

/-- bytes as a string -/
def strB (bs : List (BitVec 8)) : ByteArray := ⟨(bs.map fun b => UInt8.ofBitVec b).toArray⟩
theorem strB_inj {a b : List (BitVec 8)} (h : strB a = strB b) : a = b := by
  unfold strB at h
  have h1 : (a.map fun b => UInt8.ofBitVec b).toArray = (b.map fun b => UInt8.ofBitVec b).toArray := congrArg ByteArray.data h
  have h2 := congrArg Array.toList h1
  simp only at h2
  have : ∀ (l : List (BitVec 8)), (l.map fun b => UInt8.ofBitVec b).map UInt8.toBitVec = l := fun l => by rw [List.map_map]; simp [Function.comp_def]
  rw [← this a, ← this b, h2]
theorem under9 : Tryd.prog.underlying 9 = some .string := by kernel_rfl
theorem conv_bytes (w : World) (ad : Addr) (n cap : Nat) (bs : List (BitVec 8)) (hs : SeesB w (.slice (some ad) n cap) bs) : Sem.run Tryd.prog (convert 25 9 (.slice (some ad) n cap)) w = .ok (.string (strB bs)) w := by
  obtain rfl : n = bs.length := hs.le.2
  have h := run_convert_bytes_back (P := Tryd.prog) w 25 9 5 ad cap (bs.map fun b => UInt8.ofBitVec b) under23 under5 under9 (fun j hj => by
    have hj' : j < bs.length := by simpa using hj
    obtain ⟨ad', e, _, hc⟩ := hs.at j hj'
    cases e
    rw [hc, List.getD_eq_getElem?_getD, List.getElem?_eq_getElem hj']
    simp [iv])
  rw [List.length_map] at h
  exact h
theorem str_same {k : Int} {xs : List Int} {k2 : Int} {ys : List Int} (hx : rightS k xs.length = true) (rx : ∀ x ∈ xs, -9223372036854775808 ≤ x ∧ x ≤ 9223372036854775807) (hy : rightS k2 ys.length = true) (ry : ∀ x ∈ ys, -9223372036854775808 ≤ x ∧ x ≤ 9223372036854775807) :
    ((strB (encS k xs)).toList == (strB (encS k2 ys)).toList) = sameS k xs k2 ys := by
  have e0 : ((strB (encS k xs)).toList == (strB (encS k2 ys)).toList) = decide (strB (encS k xs) = strB (encS k2 ys)) := by
    rw [ByteArray.toList_eq, ByteArray.toList_eq, Bool.eq_iff_iff]
    simp only [beq_iff_eq, decide_eq_true_eq]
    constructor
    · intro h
      exact ByteArray.ext (Array.toList_inj.1 h)
    · intro h; rw [h]
  rw [e0]
  unfold sameS
  rw [Bool.eq_iff_iff]
  simp only [decide_eq_true_eq, Bool.and_eq_true]
  constructor
  · intro h
    have e := strB_inj h
    obtain ⟨_, k1, n1⟩ := dec_enc hx rx
    obtain ⟨_, k3, n3⟩ := dec_enc hy ry
    rw [e] at k1 n1
    exact ⟨k1.symm.trans k3, n1.symm.trans n3⟩
  · rintro ⟨rfl, rfl⟩; rfl

set_option maxRecDepth 20000 in
set_option maxHeartbeats 4000000 in
theorem frameApart_walk (k : Int) (v : Value) (xs : List Int) (k2 : Int) (v2 : Value) (ys : List Int) (w : World) (hG : Longs w)
    (sx : SeesI w v xs) (lx : xs.length ≤ 140737488351232) (kb : -9223372036854775808 ≤ k ∧ k ≤ 9223372036854775807) (rx : ∀ x ∈ xs, -9223372036854775808 ≤ x ∧ x ≤ 9223372036854775807)
    (sy : SeesI w v2 ys) (ly : ys.length ≤ 140737488351232) (kb2 : -9223372036854775808 ≤ k2 ∧ k2 ≤ 9223372036854775807) (ry : ∀ x ∈ ys, -9223372036854775808 ≤ x ∧ x ≤ 9223372036854775807) :
    Calls Tryd.prog 8 #[.agg #[.int .i64 k, v], .agg #[.int .i64 k2, v2]] w fun e w' => e = .returned (.bool true) ∧ Below w.heap.size w w' := by
  obtain ⟨ao, acap, rfl⟩ := sx.slice
  obtain ⟨bo, bcap, rfl⟩ := sy.slice
  have b0 := ball2' w (.cells #[.int .i64 k, .slice ao xs.length acap] 24) (.cells #[.int .i64 k2, .slice bo ys.length bcap] 24)
  have cS := shown8 _ (hG.below b0)
  have hw : wrap64 ((xs.length : Int) + (ys.length : Int)) = (xs.length : Int) + (ys.length : Int) := by unfold wrap64; omega
  have HF : Hid (((w.alloc (.cells #[.int .i64 k, .slice ao xs.length acap] 24)).alloc (.cells #[.int .i64 k2, .slice bo ys.length bcap] 24)).heap[w.heap.size]? = some (.cells #[.int .i64 k, .slice ao xs.length acap] 24 (0, 0))) := heap_old (heap_new w _) _
  have HF2 : Hid (((w.alloc (.cells #[.int .i64 k, .slice ao xs.length acap] 24)).alloc (.cells #[.int .i64 k2, .slice bo ys.length bcap] 24)).heap[w.heap.size + 1]? = some (.cells #[.int .i64 k2, .slice bo ys.length bcap] 24 (0, 0))) := by
    have := heap_new (w.alloc (.cells #[.int .i64 k, .slice ao xs.length acap] 24)) (.cells #[.int .i64 k2, .slice bo ys.length bcap] 24)
    rwa [World.size_alloc] at this
  have cR := fun (u : World) => rright_any k ao xs.length acap u
  have cR2 := fun (u : World) => rright_any k2 bo ys.length bcap u
  by_cases h1 : 100 < xs.length + ys.length
  · have d1 : decide ((100 : Int) < (xs.length : Int) + (ys.length : Int)) = true := by simp; omega
    generalize xs.length = n at *
    generalize ys.length = m at *
    clear sx sy rx ry hG
    go_enter Tryd.func8, Tryd.ntmps8
    go_wp2_with (go_at_call 10; refine cS.mono ?_; rintro e w1 ⟨rfl, b1⟩; obtain ⟨c0, c1, _, _⟩ := two_cells (keep b1 HF.out); obtain ⟨c2, c3, _, _⟩ := two_cells (keep b1 HF2.out))
    go_ret
    exact ⟨rfl, bt b0 b1⟩
  · have d1 : decide ((100 : Int) < (xs.length : Int) + (ys.length : Int)) = false := by simp; omega
    by_cases hr : rightS k xs.length = true
    · rw [hr] at cR
      by_cases hr2 : rightS k2 ys.length = true
      · rw [hr2] at cR2
        have cE := fun (u : World) (h : Below w.heap.size w u) => encode_yes k _ xs hr u (sx.below h) (hG.below h)
        have cE2 := fun (u : World) (h : Below w.heap.size w u) => encode_yes k2 _ ys hr2 u (sy.below h) (hG.below h)
        have k5 := fun (u : World) (h : Below w.heap.size w u) d os => same_calm k _ xs k2 _ ys u (by omega) (by omega) (sx.below h) (sy.below h) d os
        have k6 := fun (u : World) (h : Below w.heap.size w u) d os => rsame8_calm k _ xs k2 _ ys u (by omega) (by omega) (sx.below h) (sy.below h) d os
        have hst := str_same hr rx hr2 ry
        have HC1 : Hid (∀ (b : World) g B N G, b.ownsRow B 5 1 (.slice (some ⟨g, 0, none⟩) N G) N ((encS k xs).map vb) → ∀ u, Below b.heap.size b u → Sem.run Tryd.prog (convert 25 9 (.slice (some ⟨g, 0, none⟩) N G)) u = .ok (.string (strB (encS k xs))) u) := fun b g B N G h u hu => conv_bytes u _ _ _ _ (SeesB.below (Row.own h) hu)
        have HC2 : Hid (∀ (b : World) g B N G, b.ownsRow B 5 1 (.slice (some ⟨g, 0, none⟩) N G) N ((encS k2 ys).map vb) → ∀ u, Below b.heap.size b u → Sem.run Tryd.prog (convert 25 9 (.slice (some ⟨g, 0, none⟩) N G)) u = .ok (.string (strB (encS k2 ys))) u) := fun b g B N G h u hu => conv_bytes u _ _ _ _ (SeesB.below (Row.own h) hu)
        generalize strB (encS k xs) = S1 at hst HC1
        generalize strB (encS k2 ys) = S2 at hst HC2
        generalize sameS k xs k2 ys = Sm at *
        generalize encS k xs = Z1 at *
        generalize encS k2 ys = Z2 at *
        clear sx sy rx ry hG hr hr2 h1
        generalize xs.length = n at *
        generalize ys.length = m at *
        go_enter Tryd.func8, Tryd.ntmps8
        go_wp2_with (first
          | (go_at_call 10; refine cS.mono ?_; rintro e w1 ⟨rfl, b1⟩; obtain ⟨c0, c1, _, _⟩ := two_cells (keep b1 HF.out); obtain ⟨c2, c3, _, _⟩ := two_cells (keep b1 HF2.out))
          | (have _ := b2; go_at_call 20; refine (cR2 _).mono ?_; rintro e w3 ⟨rfl, b3⟩; have b13 := bt b1 (bt b2 b3); obtain ⟨e0, e1, _, _⟩ := two_cells (keep b13 HF.out))
          | (have _ := b1; go_at_call 20; refine (cR _).mono ?_; rintro e w2 ⟨rfl, b2⟩; obtain ⟨d2, d3, _, _⟩ := two_cells (keep (bt b1 b2) HF2.out))
          | (have _ := b4; go_at_call 11; refine (cE2 _ (bt b0 (bt b13 b4))).mono ?_; rintro e w5 ⟨g5, G5, rfl, ho5, b5⟩; have b15 := bt b13 (bt b4 b5))
          | (have _ := b13; go_at_call 11; refine (cE _ (bt b0 b13)).mono ?_; rintro e w4 ⟨g4, G4, rfl, ho4, b4⟩; obtain ⟨f0, f1, _, _⟩ := two_cells (keep (bt b13 b4) HF2.out)))
        obtain ⟨p0, p1, _, _⟩ := two_cells (keep b15 HF.out)
        obtain ⟨p2, p3, _, _⟩ := two_cells (keep b15 HF2.out)
        have m0 := cell_regrown p0
        have m1 := cell_regrown p1
        have m2 := cell_regrown p2
        have m3 := cell_regrown p3
        have y1 := fun d os => HC1.out _ _ _ _ _ ho4 _ (bt b5 (below_regrown w5 d os))
        have y2 := fun d os => HC2.out _ _ _ _ _ ho5 _ (below_regrown w5 d os)
        have B5 := bt b0 b15
        clear p0 p1 p2 p3 c0 c1 c2 c3 d2 d3 e0 e1 f0 f1
        refine wp_region_quiet_below (by kernel_rfl) (by kernel_rfl) ?_
        repeat (quiet_step (first
          | (go_at_call 21; exact k5 _ B5 _ _)
          | (go_at_call 16; exact k6 _ B5 _ _)))
        refine wpQuiet_nil ?_
        intro _ hw'
        obtain ⟨⟨dq, osq⟩, hw''⟩ := hw'
        subst hw''
        go_wp2
        go_ret
        exact ⟨rfl, bt B5 (below_regrown _ dq osq)⟩
      · have hr' : rightS k2 ys.length = false := by simpa using hr2
        rw [hr'] at cR2
        generalize xs.length = n at *
        generalize ys.length = m at *
        clear sx sy rx ry hG hr hr2 hr'
        go_enter Tryd.func8, Tryd.ntmps8
        go_wp2_with (first
          | (go_at_call 10; refine cS.mono ?_; rintro e w1 ⟨rfl, b1⟩; obtain ⟨c0, c1, _, _⟩ := two_cells (keep b1 HF.out); obtain ⟨c2, c3, _, _⟩ := two_cells (keep b1 HF2.out))
          | (have _ := b2; go_at_call 20; refine (cR2 _).mono ?_; rintro e w3 ⟨rfl, b3⟩)
          | (have _ := b1; go_at_call 20; refine (cR _).mono ?_; rintro e w2 ⟨rfl, b2⟩; obtain ⟨d2, d3, _, _⟩ := two_cells (keep (bt b1 b2) HF2.out)))
        go_ret
        exact ⟨rfl, bt b0 (bt b1 (bt b2 b3))⟩
    · have hr' : rightS k xs.length = false := by simpa using hr
      rw [hr'] at cR
      generalize xs.length = n at *
      generalize ys.length = m at *
      clear sx sy rx ry hG hr hr'
      go_enter Tryd.func8, Tryd.ntmps8
      go_wp2_with (first
        | (go_at_call 10; refine cS.mono ?_; rintro e w1 ⟨rfl, b1⟩; obtain ⟨c0, c1, _, _⟩ := two_cells (keep b1 HF.out); obtain ⟨c2, c3, _, _⟩ := two_cells (keep b1 HF2.out))
        | (go_at_call 20; refine (cR _).mono ?_; rintro e w2 ⟨rfl, b2⟩))
      go_ret
      exact ⟨rfl, bt b0 (bt b1 b2)⟩
end Go.Proofs.YtnkghcbjokmooaaDoor.Gr
