/-
  The frame of bytes: the code's Decode, where the bytes are a frame's.
-/
import Derived.Test.YtnkghcbjokmooaaDoorFD2
namespace Go.Proofs.YtnkghcbjokmooaaDoor.Gr
open Go.RowKit Go.Sort Qm Go.Shelf
set_option linter.unusedSimpArgs false
set_option linter.unusedVariables false
attribute [local go_sem] Oper.semAt_some

theorem dec_zero {bs : List (BitVec 8)} (h : decE bs = 0) : openE bs = 0 ∧ 0 < longS (hdK (openS bs)) ∧ (openS bs).length = 1 + 8 * longS (hdK (openS bs)) ∧ decK bs = hdK (openS bs) ∧ decN bs = wordsS ((openS bs).drop 1) (longS (hdK (openS bs))) := by
  have hk : decK bs = hdK (openS bs) := by unfold decK; rw [if_pos h]
  have hn : decN bs = wordsS ((openS bs).drop 1) (longS (hdK (openS bs))) := by unfold decN; rw [if_pos h]
  unfold decE at h
  split at h
  · rename_i h1; exact absurd h h1
  · rename_i h1
    have h1 : openE bs = 0 := by simpa using h1
    split at h
    · simp at h
    · rename_i h2
      split at h
      · simp at h
      · rename_i h3
        have h4 : ¬ longS (hdK (openS bs)) = 0 := fun e => h3 (.inl e)
        exact ⟨h1, by omega, Classical.byContradiction fun e => h3 (.inr e), hk, hn⟩
set_option maxRecDepth 100000 in
set_option maxHeartbeats 2000000 in
theorem decode_yes (v : Value) (bs : List (BitVec 8)) (hn : bs.length ≤ 3500) (hE : decE bs = 0) (w : World) (hs : SeesB w v bs) (hG : Longs w) :
    Calls Tryd.prog 13 #[v] w fun e b => ∃ v', e = .returned (.tuple #[.agg #[.int .i64 (decK bs), v'], .int .i64 0]) ∧ SeesI b v' (decN bs) ∧ Below w.heap.size w b := by
  have bz := box_below w (.cells #[.int .i64 0, .slice none 0 0] 24)
  have cO := open_any v bs hn _ (hs.below bz)
  have hfr := heap_new w (.cells #[.int .i64 0, .slice none 0 0] 24)
  obtain ⟨hE0, hLp, hlen, hk, hnn⟩ := dec_zero hE
  rw [hE0] at cO
  rw [hk, hnn]
  clear hE0 hk hnn hE
  generalize openS bs = in' at hLp hlen cO ⊢
  have cL := fun (u : World) (h : Below w.heap.size w u) => long_any (hdK in') u (hG.below h)
  obtain ⟨K, hK⟩ : ∃ K, hdK in' = K := ⟨_, rfl⟩
  have hK' : iv (in'.getD 0 0#8) = K := hK
  have hKw : IntKind.i64.wrap K = K := by rw [← hK']; exact wrap_small (iv_lt8 _).1 (iv_lt8 _).2
  rw [hK] at cL hLp hlen ⊢
  have hL18 := longS_le K
  generalize longS K = L at cL hLp hlen hL18 ⊢
  have HN : Hid (in'.length = 1 + 8 * L) := hlen
  have hc0 : ∀ (u : World) (ao : Option Addr) (cap : Nat), SeesB u (.slice ao (1 + 8 * L) cap) in' → ∃ ad, ao = some ad ∧ ad.block < u.heap.size ∧ u.cell? ad = some (.int .u8 (iv (in'.getD 0 0#8))) := fun u ao cap sv => sv.at 0 (by rw [HN.out]; omega)
  rw [hK'] at hc0
  clear hlen hs hG hK hK'
  obtain ⟨n, hn'⟩ : ∃ n, 1 + 8 * L = n := ⟨_, rfl⟩
  have HL : Hid (1 + 8 * L = n) := hn'
  rw [hn'] at hc0 HN
  have l1 : (1 : Int) ≤ (n : Int) := by omega
  have l0 : (0 : Int) < (n : Int) := by omega
  have hnn : (n : Int) - 1 = ((8 * L : Nat) : Int) := by omega
  have ln0 : 0 < n := by omega
  have ln1 : 1 ≤ n := by omega
  have d0 : decide ((n : Int) = 0) = false := by simp; omega
  have d0' : ((n : Int) == 0) = false := by simp; omega
  have m8 : wrap64 (8 * (L : Int)) = 8 * (L : Int) := by unfold wrap64; omega
  have d1 : decide ((L : Int) = 0) = false := by simp; omega
  have d4 : ((L : Int) == 0) = false := by simp; omega
  have n18 : n - 1 = 8 * L := by omega
  have n9 : 9 ≤ n := by omega
  clear hn'
  refine (callsIn_wide (n := 3)).1 ?_
  refine callsIn_of_wp_marks Tryd.func13 rfl trivial ?_ rfl
  refine wpIn_wide.2 ?_
  simp only [Tryd.ntmps13, List.size_toArray, List.length_cons, List.length_nil, Nat.reduceAdd, Nat.reduceSub, Array.replicate_succ, Array.replicate_zero, List.push_toArray, List.append_toArray, List.nil_append, List.cons_append]
  go_wp2_with (first
    | (go_at_call 30; refine cO.mono ?_; rintro e w1 ⟨v', rfl, sv, b1⟩; obtain ⟨xo, xc, rfl⟩ := sv.slice; rw [HN.out] at sv ⊢; obtain ⟨ad, rfl, _, ca⟩ := hc0 _ _ _ sv; obtain ⟨c0, c1, f0, f1⟩ := two_cells (keep b1 hfr); have le1 : n ≤ xc := Nat.le_trans (Nat.le_of_eq HN.out.symm) sv.le.1; have le2 : (n : Int) ≤ (xc : Int) := (by omega); have le3 : 1 ≤ xc := (by omega); have le4 : (1 : Int) ≤ (xc : Int) := (by omega); have le5 : ¬ xc = 1 := (by omega))
    | fail)
  go_region_held3 (fun u => u.cell? ad = some (.int .u8 K)) (go_keep) (fail)
  have hfr2 := keep b1 hfr
  have b2 := box_below w1 (.cells #[.int .i64 K, .slice none 0 0] 24)
  have hfr3 := heap_old hfr2 (.cells #[.int .i64 K, .slice none 0 0] 24)
  have hfr4 := heap_new w1 (.cells #[.int .i64 K, .slice none 0 0] 24)
  have B1 := bt bz b1
  obtain ⟨W, hW⟩ : ∃ W, (w1.alloc (.cells #[.int .i64 K, .slice none 0 0] 24)).drew = W := ⟨_, rfl⟩
  have b3 : Below w1.heap.size w1 W := by rw [← hW]; exact b2.drew
  have hfr5 : W.heap[w.heap.size]? = some (.cells #[.int .i64 0, .slice none 0 0] 24 (0, 0)) := by rw [← hW]; exact hfr3
  have hfr6 : W.heap[w1.heap.size]? = some (.cells #[.int .i64 K, .slice none 0 0] 24 (0, 0)) := by rw [← hW]; exact hfr4
  rw [hW]
  obtain ⟨e0, e1, g0, g1⟩ := two_cells hfr5
  obtain ⟨e2, e3, g2, g3⟩ := two_cells hfr6
  clear b2 hfr2 hfr3 hfr4 hW c0 c1 f0 f1
  go_wp2_with (first
    | (go_at_call 17; refine (cL _ (bt B1 b3)).mono ?_; rintro e w4 ⟨rfl, b4⟩; obtain ⟨y0, y1, m0, m1⟩ := two_cells (keep b4 hfr5))
    | (go_at_call 31; refine (chunk_any _ _ _ _).mono ?_; rintro e w5 ⟨rfl, rfl⟩))
  have hsvP : ∀ (V : World) (x : Fin L), Below w1.heap.size w1 V → SeesB V (.slice (some ((ad.add 1).add (8 * x.1))) 8 8) (prt (in'.drop 1) x.1) := fun V x hb => by
    have h1 := (sv.part (1 + 8 * x.1) 8 (by rw [HN.out]; have := x.2; omega)).below hb
    rw [Addr.add_add]
    unfold prt
    rw [List.drop_drop]
    exact h1
  have hpl : ∀ x : Fin L, (prt (in'.drop 1) x.1).length = 8 := fun x => by
    unfold prt
    rw [List.length_take, List.length_drop, List.length_drop, HN.out]
    have := x.2
    omega
  have hq6 : w4.heap[w1.heap.size]? = some (.cells #[.int .i64 K, .slice none 0 0] 24 (0, 0)) := keep b4 hfr6
  have hq5 : w4.heap[w.heap.size]? = some (.cells #[.int .i64 0, .slice none 0 0] 24 (0, 0)) := keep b4 hfr5
  have hlt1 : w.heap.size < w1.heap.size := lt_of_block (keep b1 hfr)
  have hb14 := bt b3 b4
  have hlt4 := lt_of_block hq6
  obtain ⟨F, hF⟩ : ∃ F : Fin L → Int, (fun x : Fin L => io (numN (prt (in'.drop 1) x.1))) = F := ⟨_, rfl⟩
  have HF : Hid (fRow F (List.finRange L) = (wordsS (in'.drop 1) L).map vw) := by
    unfold Hid fRow wordsS
    rw [← hF, fins_vals L (fun i => io (numN (prt (in'.drop 1) i)))]
  have hnum : ∀ (u : World) (x : Fin L), Below w1.heap.size w1 u → Calls Tryd.prog 32 #[.slice (some ((ad.add 1).add (8 * x.1))) 8 8] u fun e w' => e = .returned (.int .i64 (F x)) ∧ w' = u := fun u x h => by
    rw [← hF]; exact number_any _ _ (hpl x) u (hsvP u x h)
  clear hsvP hpl hF
  obtain ⟨A, hA⟩ : ∃ A, (⟨ad.block, ad.off + 1, none⟩ : Addr) = A := ⟨_, rfl⟩
  have hA1 : ad.add 1 = A := hA
  rw [hA1] at hnum
  rw [hA]
  clear hA hA1
  clear y0 y1 m0 m1 e0 e1 e2 e3 g0 g1 g2 g3 cL hc0 cO hfr hfr5 hfr6 b4 b3 bz b1
  refine (wpIn_wide (n := 3)).1 ?_
  refine wpIn_rangeFunc_ownG rfl (by omega) (gf := 44) (lb := #[.pointer (some ⟨w4.heap.size, 0, none⟩), .pointer (some ⟨w4.heap.size + 1, 0, none⟩)]) rfl trivial (enters_of Tryd.func44 (by kernel_rfl) rfl)
    (chunk_stops 2 (by omega) w4.heap.size (w4.heap.size + 1) L (xc - 1) A hL18 (by omega) _ (by simp; omega) (by simp) (by simp) (by simp)) kp2_t (kp2_b (by simp; omega) (by simp)) (Below.refl _ _) (fun _ => rfl)
    (fun pre V => (∃ v, FBox V w1.heap.size K v ∧ V.ownsRow (w4.heap.size + 2) 2 1 v pre.length (fRow F pre)) ∧ w4.heap.size + 2 ≤ V.heap.size ∧ Below w1.heap.size w1 V)
    (fun _ _ _ => False)
    (OwnFrom.and (Own.from (fbox_own (w4.heap.size + 2) w1.heap.size K (fun pre : List (Fin L) => pre.length) (fun pre => fRow F pre)) _) (OwnFrom.and (fun _ _ _ _ h hg _ => Nat.le_trans h hg.size) (ownFrom_below (Nat.le_refl _) (by simp; omega))))
    (fun _ _ _ _ _ hs _ _ => hs)
    ⟨⟨_, heap_old (heap_old hq6 _) _, World.ownsRow_nil _ _ _ _⟩, by simp, bt hb14 (ball2' w4 _ _)⟩
    (fun x => { tmps := #[v, undef, .pointer (some ⟨w.heap.size, 0, none⟩), .int .i64 0, .slice (some ad) n xc, .int .i64 0, .pointer (some ⟨w1.heap.size, 0, none⟩), .slice (some A) (8 * L) (xc - 1), .int .i64 L, .slice (some (A.add (8 * x.1))) 8 8,
      .tuple #[.slice (some ad) n xc, .int .i64 0], v, .tuple #[.slice (some ad) n xc, .int .i64 0], .slice (some ad) n xc, .int .i64 0, .int .i64 0, .bool false, undef, undef, .slice (some ad) n xc, .int .i64 n, .bool false, undef, .slice (some ad) n xc, .pointer (some ad),
      .int .u8 K, .int .i64 K, .agg #[.int .i64 K, .slice none 0 0], .slice (some ad) n xc, .slice (some A) (8 * L) (xc - 1), .pointer (some ⟨w1.heap.size, 0, none⟩), .int .i64 K, .int .i64 L, .int .i64 L, .bool false, .bool false,
      .slice (some A) (8 * L) (xc - 1), .int .i64 (8 * L), .int .i64 L, .int .i64 (8 * L), .bool false, .bool false, undef, .slice (some A) (8 * L) (xc - 1),
      .func (.func 44) #[] #[.pointer (some ⟨w4.heap.size, 0, none⟩), .pointer (some ⟨w4.heap.size + 1, 0, none⟩)], .slice (some (A.add (8 * x.1))) 8 8, undef, undef, undef, undef, undef, undef, undef, undef], defers := [] }) ?assign ?body ?done ?stop
  case assign =>
    intro l x V K' hK'
    gi_wp2
    exact hK'
  case body =>
    rintro l pre x V ⟨⟨v2, hv, hrow⟩, hgV, hB⟩ hlt
    have hle5 : w1.heap.size ≤ w4.heap.size + 2 := by omega
    obtain ⟨q0, q1, p0, p1⟩ := two_cells (show V.heap[w1.heap.size]? = some (.cells #[.int .i64 K, v2] 24 (0, 0)) from hv)
    replace hnum := fun u => hnum u x
    have u1 : FBox V.drew w1.heap.size K v2 := hv
    have u2 : V.drew.ownsRow (w4.heap.size + 2) 2 1 v2 pre.length (fRow F pre) := hrow
    have u3 : Below w1.heap.size w1 V.drew := hB.drew
    have u4 : KeepsOthers V V.drew := KeepsOthers.drew V
    have u5 : Kp2 w4.heap.size (w4.heap.size + 1) V V.drew := ⟨rfl, rfl⟩
    have u6 : w4.heap.size + 2 ≤ V.drew.heap.size := hgV
    have q1' : V.drew.cell? ⟨w1.heap.size, 1, none⟩ = some v2 := q1
    refine wpIn_block ?_
    refine regionIn_of_any l _ (by kernel_rfl) (by rintro ⟨a', w', h⟩; exact h) (no_defer (by kernel_rfl)) ?_
    generalize V.drew = U at u1 u2 u3 u4 u5 u6 q1' ⊢
    have q1a := fun o => (two_cells (heap_old u1 o)).2.1
    refine wpAny_take (i := 0) (v := .pointer (some ⟨w1.heap.size, 1, none⟩)) rfl (by kernel_rfl) (by kernel_rfl) (by kernel_rfl) (fun _ _ _ h => h) (Or.inl ⟨by rfl, fun u => by go_simp⟩) ?_
    try simp only [Act.put, List.setIfInBounds_toArray, List.set_cons_zero, List.set_cons_succ]
    refine wpAny_take (i := 2) (v := .slice (some (A.add (8 * x.1))) 8 8) rfl (by kernel_rfl) (by kernel_rfl) (by kernel_rfl) (fun _ _ _ h => h) (Or.inl ⟨by rfl, fun u => by go_simp⟩) ?_
    try simp only [Act.put, List.setIfInBounds_toArray, List.set_cons_zero, List.set_cons_succ]
    refine wpAny_ready (rs := [1, 3]) (by kernel_rfl) (by simp) ?_
    refine AllReady.cons rfl (fun K1 hK1 => ?_) (AllReady.cons rfl (fun K1 hK1 => ?_) AllReady.nil)
    · go_simp
      refine hK1 _ _ ?_
      clear hK1 K1
      try simp only [Act.put, List.setIfInBounds_toArray, List.set_cons_zero, List.set_cons_succ]
      refine wpAny_ready (rs := [3]) (by kernel_rfl) (by simp) ?_
      refine AllReady.cons rfl (fun K1 hK1 => ?_) AllReady.nil
      go_simp
      refine (hnum _ u3).mono ?_
      rintro e u9 ⟨rfl, hu9⟩
      subst u9
      refine hK1 _ _ ?_
      clear hK1 K1
      try simp only [Act.put, List.setIfInBounds_toArray, List.set_cons_zero, List.set_cons_succ]
      refine wpAny_ready (rs := [4]) (by kernel_rfl) (by simp) ?_
      refine AllReady.cons rfl (fun K1 hK1 => ?_) AllReady.nil
      go_simp
      refine hK1 _ _ ?_
      clear hK1 K1
      try simp only [Act.put, List.setIfInBounds_toArray, List.set_cons_zero, List.set_cons_succ]
      refine wpAny_ready (rs := [5]) (by kernel_rfl) (by simp) ?_
      refine AllReady.cons rfl (fun K1 hK1 => ?_) AllReady.nil
      refine step64 rfl _ _ rfl (w4.heap.size + 2) v2 pre.length _ rfl (u2.alloc _) (le_alloc u6 _) _ 1 1 [F x] rfl (one64' U _ _ rfl) (by simp; omega) ?_
      intro v5 w5 ho5 hg5
      obtain ⟨g5, c5, rfl⟩ := ownsRow_succ ho5
      obtain ⟨z1, z2, z3, z4, z5, z6⟩ := u1.appended u2 u6 (Nat.le_refl _) hle5 ho5 hg5
      obtain ⟨y0, y1, y2, y3⟩ := two_cells (show w5.heap[w1.heap.size]? = some (.cells #[.int .i64 K, v2] 24 (0, 0)) from z1)
      try go_simp
      refine hK1 _ _ ?_
      clear hK1 K1
      try simp only [Act.put, List.setIfInBounds_toArray, List.set_cons_zero, List.set_cons_succ]
      refine wpAny_take (i := 6) (v := .pointer (some ⟨w1.heap.size, 1, none⟩)) rfl (by kernel_rfl) (by kernel_rfl) (by kernel_rfl) (fun _ _ _ h => h) (Or.inl ⟨by rfl, fun u => by go_simp⟩) ?_
      try simp only [Act.put, List.setIfInBounds_toArray, List.set_cons_zero, List.set_cons_succ]
      refine wpAny_ready (rs := [7]) (by kernel_rfl) (by simp) ?_
      refine AllReady.cons rfl (fun K1 hK1 => ?_) AllReady.nil
      go_simp
      refine hK1 _ _ ?_
      clear hK1 K1
      try simp only [Act.put, List.setIfInBounds_toArray, List.set_cons_zero, List.set_cons_succ]
      refine wpAny_done (by kernel_rfl) ?_ _
      exact ⟨(u4.trans z4).from _, kp2_t u5 ⟨z6 _ (by omega) (by omega), z6 _ (by omega) (by omega)⟩, ⟨_, z2, by rw [fRow_snoc, List.length_append]; exact z3⟩, by have := z5.size; omega, u3.trans z5⟩
    · go_simp
      refine (hnum _ u3).mono ?_
      rintro e u9 ⟨rfl, hu9⟩
      subst u9
      refine hK1 _ _ ?_
      clear hK1 K1
      try simp only [Act.put, List.setIfInBounds_toArray, List.set_cons_zero, List.set_cons_succ]
      refine wpAny_ready (rs := [1, 4]) (by kernel_rfl) (by simp) ?_
      refine AllReady.cons rfl (fun K1 hK1 => ?_) (AllReady.cons rfl (fun K1 hK1 => ?_) AllReady.nil)
      · go_simp
        refine hK1 _ _ ?_
        clear hK1 K1
        try simp only [Act.put, List.setIfInBounds_toArray, List.set_cons_zero, List.set_cons_succ]
        refine wpAny_ready (rs := [4]) (by kernel_rfl) (by simp) ?_
        refine AllReady.cons rfl (fun K1 hK1 => ?_) AllReady.nil
        go_simp
        refine hK1 _ _ ?_
        clear hK1 K1
        try simp only [Act.put, List.setIfInBounds_toArray, List.set_cons_zero, List.set_cons_succ]
        refine wpAny_ready (rs := [5]) (by kernel_rfl) (by simp) ?_
        refine AllReady.cons rfl (fun K1 hK1 => ?_) AllReady.nil
        refine step64 rfl _ _ rfl (w4.heap.size + 2) v2 pre.length _ rfl (u2.alloc _) (le_alloc u6 _) _ 1 1 [F x] rfl (one64' U _ _ rfl) (by simp; omega) ?_
        intro v5 w5 ho5 hg5
        obtain ⟨g5, c5, rfl⟩ := ownsRow_succ ho5
        obtain ⟨z1, z2, z3, z4, z5, z6⟩ := u1.appended u2 u6 (Nat.le_refl _) hle5 ho5 hg5
        obtain ⟨y0, y1, y2, y3⟩ := two_cells (show w5.heap[w1.heap.size]? = some (.cells #[.int .i64 K, v2] 24 (0, 0)) from z1)
        try go_simp
        refine hK1 _ _ ?_
        clear hK1 K1
        try simp only [Act.put, List.setIfInBounds_toArray, List.set_cons_zero, List.set_cons_succ]
        refine wpAny_take (i := 6) (v := .pointer (some ⟨w1.heap.size, 1, none⟩)) rfl (by kernel_rfl) (by kernel_rfl) (by kernel_rfl) (fun _ _ _ h => h) (Or.inl ⟨by rfl, fun u => by go_simp⟩) ?_
        try simp only [Act.put, List.setIfInBounds_toArray, List.set_cons_zero, List.set_cons_succ]
        refine wpAny_ready (rs := [7]) (by kernel_rfl) (by simp) ?_
        refine AllReady.cons rfl (fun K1 hK1 => ?_) AllReady.nil
        go_simp
        refine hK1 _ _ ?_
        clear hK1 K1
        try simp only [Act.put, List.setIfInBounds_toArray, List.set_cons_zero, List.set_cons_succ]
        refine wpAny_done (by kernel_rfl) ?_ _
        exact ⟨(u4.trans z4).from _, kp2_t u5 ⟨z6 _ (by omega) (by omega), z6 _ (by omega) (by omega)⟩, ⟨_, z2, by rw [fRow_snoc, List.length_append]; exact z3⟩, by have := z5.size; omega, u3.trans z5⟩
      · go_simp
        refine hK1 _ _ ?_
        clear hK1 K1
        try simp only [Act.put, List.setIfInBounds_toArray, List.set_cons_zero, List.set_cons_succ]
        refine wpAny_ready (rs := [1]) (by kernel_rfl) (by simp) ?_
        refine AllReady.cons rfl (fun K1 hK1 => ?_) AllReady.nil
        go_simp
        refine hK1 _ _ ?_
        clear hK1 K1
        try simp only [Act.put, List.setIfInBounds_toArray, List.set_cons_zero, List.set_cons_succ]
        refine wpAny_ready (rs := [5]) (by kernel_rfl) (by simp) ?_
        refine AllReady.cons rfl (fun K1 hK1 => ?_) AllReady.nil
        refine step64 rfl _ _ rfl (w4.heap.size + 2) v2 pre.length _ rfl (u2.alloc _) (le_alloc u6 _) _ 1 1 [F x] rfl (one64' U _ _ rfl) (by simp; omega) ?_
        intro v5 w5 ho5 hg5
        obtain ⟨g5, c5, rfl⟩ := ownsRow_succ ho5
        obtain ⟨z1, z2, z3, z4, z5, z6⟩ := u1.appended u2 u6 (Nat.le_refl _) hle5 ho5 hg5
        obtain ⟨y0, y1, y2, y3⟩ := two_cells (show w5.heap[w1.heap.size]? = some (.cells #[.int .i64 K, v2] 24 (0, 0)) from z1)
        try go_simp
        refine hK1 _ _ ?_
        clear hK1 K1
        try simp only [Act.put, List.setIfInBounds_toArray, List.set_cons_zero, List.set_cons_succ]
        refine wpAny_take (i := 6) (v := .pointer (some ⟨w1.heap.size, 1, none⟩)) rfl (by kernel_rfl) (by kernel_rfl) (by kernel_rfl) (fun _ _ _ h => h) (Or.inl ⟨by rfl, fun u => by go_simp⟩) ?_
        try simp only [Act.put, List.setIfInBounds_toArray, List.set_cons_zero, List.set_cons_succ]
        refine wpAny_ready (rs := [7]) (by kernel_rfl) (by simp) ?_
        refine AllReady.cons rfl (fun K1 hK1 => ?_) AllReady.nil
        go_simp
        refine hK1 _ _ ?_
        clear hK1 K1
        try simp only [Act.put, List.setIfInBounds_toArray, List.set_cons_zero, List.set_cons_succ]
        refine wpAny_done (by kernel_rfl) ?_ _
        exact ⟨(u4.trans z4).from _, kp2_t u5 ⟨z6 _ (by omega) (by omega), z6 _ (by omega) (by omega)⟩, ⟨_, z2, by rw [fRow_snoc, List.length_append]; exact z3⟩, by have := z5.size; omega, u3.trans z5⟩
  case done =>
    rintro D ys V hD rfl ⟨⟨v2, hv, hrow⟩, hgV, hB⟩ hK
    have e : (List.finRange L).length = (L - 1) + 1 := by simp; omega
    rw [e] at hrow
    obtain ⟨g5, c5, rfl⟩ := ownsRow_succ hrow
    obtain ⟨q0, q1, p0, p1⟩ := two_cells (show V.heap[w1.heap.size]? = some (.cells #[.int .i64 K, .slice (some ⟨g5, 0, none⟩) (L - 1 + 1) c5] 24 (0, 0)) from hv)
    have hV5 : V.heap[w.heap.size]? = some (.cells #[.int .i64 0, .slice none 0 0] 24 (0, 0)) := (hB.block _ hlt1).trans ((hb14.block _ hlt1).symm.trans hq5)
    obtain ⟨y0, y1, m0, m1⟩ := two_cells hV5
    have hsee := Row.own hrow
    have hK1 := (KeepsOthers.setCell V ⟨w.heap.size, 0, none⟩ (.int .i64 K)).same D _ hK rfl
    have hK2 := (KeepsOthers.setCell _ ⟨w.heap.size, 1, none⟩ (.slice (some ⟨g5, 0, none⟩) (L - 1 + 1) c5)).same D _ hK1 rfl
    go_wp2
    refine ⟨by simp, .inl ⟨_, _, rfl, run_takeDeferred hK2, ?_⟩⟩
    have hDge : w.heap.size < D := by simp at hD; omega
    have hset := set_two (x' := .int .i64 K) (y' := .slice (some ⟨g5, 0, none⟩) (L - 1 + 1) c5) hV5
    have hown1 := hrow.kept (gb_setCell1 V w.heap.size 0 (.int .i64 K)) (.inr fun e => by have := (hrow.lt _ e).1; omega)
    have hown2 := hown1.kept (gb_setCell1 _ w.heap.size 1 (.slice (some ⟨g5, 0, none⟩) (L - 1 + 1) c5)) (.inr fun e => by have := (hown1.lt _ e).1; omega)
    have hown3 := ownsRow_putObj hown2 (.deferred none) hK2 rfl
    have hb3 := put2 (B1.trans (hB.mono (Nat.le_of_lt hlt1))) (Nat.le_refl _) (.int .i64 K) (.slice (some ⟨g5, 0, none⟩) (L - 1 + 1) c5)
    have hb4 := hb3.trans (belowK_b (w := w) (Nat.le_refl _) _ D _ (.deferred none) (Nat.le_of_lt hDge) hK2 rfl rfl)
    have hset' := (World.putObj_heap_other (o := .deferred none) (Nat.ne_of_lt hDge)).trans hset
    obtain ⟨r0, r1, _, _⟩ := two_cells hset'
    rw [HF.out] at hown3
    refine ⟨.tuple #[.agg #[.int .i64 K, .slice (some ⟨g5, 0, none⟩) (L - 1 + 1) c5], .int .i64 0], by simp [results, Tryd.results13, go_sem, r0, r1], _, rfl, Row.own hown3, hb4⟩
  case stop =>
    rintro D c pre V _ _ h _
    exact h.elim
end Go.Proofs.YtnkghcbjokmooaaDoor.Gr
