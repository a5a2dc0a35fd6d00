/-
  The walks of SumBack and SumShort.
-/
import Derived.Test.YtgamakjhndlffaaCSh
namespace Go.Proofs.Ytgamakjhndlffaa.Gr
open Go.RowKit Qm

set_option maxRecDepth 20000 in
set_option maxHeartbeats 4000000 in
theorem sumBack_walk (va : Value) (xs : List (BitVec 8)) (vb' : Value) (ys : List (BitVec 8)) (c : BitVec 32) (w : World) (ha : SeesB w va xs) (la : xs.length ≤ 140737488351232) (hb : SeesB w vb' ys) (lb : ys.length ≤ 140737488351232) :
    Calls Try.prog 4 #[va, vb', .int .u32 (iv c)] w fun e w' => e = .returned (.bool true) ∧ Below w.heap.size w w' := by
  obtain ⟨ao, acap, rfl⟩ := ha.slice
  obtain ⟨bo, bcap, rfl⟩ := hb.slice
  by_cases hl : 3000 < xs.length + ys.length
  · generalize xs.length = n at *
    generalize ys.length = m at *
    have hl' : (3000 : Int) < (n : Int) + (m : Int) := by omega
    have hw : wrap64 ((n : Int) + (m : Int)) = (n : Int) + (m : Int) := by unfold wrap64; omega
    go_enter Try.func4, Try.ntmps4
    go_wp2_with (go_at_call 8; refine (shown_any _).mono ?_; rintro e w1 ⟨rfl, b1⟩)
    go_ret
    exact ⟨rfl, b1⟩
  · have kS := fun (u : World) (h : Below w.heap.size w u) => seal_any _ xs (by omega) u (ha.below h)
    have hZ : (sealS xs).length ≤ 3500 := by rw [sealS_len]; omega
    have kO := fun (u : World) (v : Value) (h : SeesB u v (sealS xs)) => open_any v _ hZ u h
    rw [(open_seal xs).1, (open_seal xs).2] at kO
    have kE := fun (u : World) (v : Value) (h : SeesB u v xs) (h2 : Below w.heap.size w u) => rsame_any v _ xs xs u (by omega) (by omega) h (ha.below h2)
    have d1 : decide (xs = xs) = true := by simp
    rw [d1] at kE
    have kM := fun (u : World) (h : Below w.heap.size w u) => more_any c _ xs u (by omega) (ha.below h)
    have kN := fun (u : World) (h : Below w.heap.size w u) => more_any (moreS c xs) _ ys u (by omega) (hb.below h)
    have kB := fun (u : World) (v : Value) (h : SeesB u v (xs ++ ys)) => more_any c v (xs ++ ys) u (by rw [List.length_append]; omega) h
    rw [moreS_append] at kB
    have HO : Hid (∀ (b : World) (v : Value) B, b.ownsRow B 5 1 v (xs.length + 4) ((sealS xs).map vb) → SeesB b v (sealS xs)) := fun b v B h => Row.own h
    have HA : Hid (∀ (b : World) (v : Value) B N, b.ownsRow B 5 1 v N ([] ++ xs.map vb ++ ys.map vb) → SeesB b v (xs ++ ys)) := fun b v B N h => by
      have := Row.own h
      rw [List.nil_append, ← List.map_append] at this
      exact this
    have l1 : 0 + xs.length ≤ 100000 := by omega
    have l2 : 0 + xs.length + ys.length ≤ 100000 := by omega
    have hl' : ¬ ((3000 : Int) < (xs.length : Int) + (ys.length : Int)) := by omega
    have hw : wrap64 ((xs.length : Int) + (ys.length : Int)) = (xs.length : Int) + (ys.length : Int) := by unfold wrap64; omega
    have hw4 : wrap64 ((xs.length : Int) + 4) = (xs.length : Int) + 4 := by unfold wrap64; omega
    clear hZ d1 hl
    generalize sealS xs = Z at kS kO HO
    generalize moreS (moreS c xs) ys = M at kN kB
    generalize moreS c xs = D at kM kN
    have HP : Hid (∀ u, Below w.heap.size w u → SeesB u (.slice ao xs.length acap) xs) := fun u h => ha.below h
    have HQ : Hid (∀ u, Below w.heap.size w u → SeesB u (.slice bo ys.length bcap) ys) := fun u h => hb.below h
    clear ha hb la lb
    go_enter Try.func4, Try.ntmps4
    go_wp2_with (first
      | (go_at_call 8; refine (shown_any _).mono ?_; rintro e w1 ⟨rfl, b1⟩)
      | (have _ := b9; go_at_call 18; refine (kS _ (bt B8 b9)).mono ?_; rintro e w10 ⟨g', G', rfl, ho', b10⟩)
      | (go_at_call 18; refine (kS _ b1).mono ?_; rintro e w2 ⟨g, G, rfl, ho, b2⟩; have hz := HO.out _ _ _ ho; have B2 := bt b1 b2)
      | (go_at_call 9; refine (kO _ _ hz).mono ?_; rintro e w3 ⟨x, rfl, hx, b3⟩; have B3 := bt B2 b3)
      | (have _ := b4; at_builtin; refine app8 rfl _ _ rfl w3.heap.size _ _ _ rfl ho4 b4.size _ ys rfl (HQ.out _ (bt B3 b4)) l2 ?_; intro v5 w5 ho5 hg5; have b5 : Below w3.heap.size w3 w5 := b4.grown hg5 b4.size (fun m e => (ho4.lt m e).1); have hs5 := HA.out _ _ _ _ ho5)
      | (have _ := B3; at_builtin; refine app8 rfl _ _ rfl w3.heap.size _ 0 [] rfl (own_nil8 w3 _ rfl) (box_below w3 _).size _ xs rfl (HP.out _ (bt B3 (box_below w3 _))) l1 ?_; intro v4 w4 ho4 hg4; have b4 : Below w3.heap.size w3 w4 := (box_below w3 _).grown hg4 (box_below w3 _).size (fun m e => by cases e; exact Nat.le_refl _))
      | (go_at_call 17; refine (kE _ _ (hx.below b5) (bt B3 b5)).mono ?_; rintro e w6 ⟨rfl, b6⟩; have B6 := bt (bt B3 b5) b6)
      | (have _ := b8; go_at_call 13; refine (kB _ _ (hs5.below (bt b6 (bt b7 b8)))).mono ?_; rintro e w9 ⟨rfl, b9⟩)
      | (have _ := b7; go_at_call 13; refine (kN _ (bt B6 b7)).mono ?_; rintro e w8 ⟨rfl, b8⟩; have B8 := bt (bt B6 b7) b8)
      | (have _ := B6; go_at_call 13; refine (kM _ B6).mono ?_; rintro e w7 ⟨rfl, b7⟩))
    go_ret
    exact ⟨rfl, bt (bt B8 b9) b10⟩

namespace Qm
theorem of_nil : ofS [] = 0#32 := by decide
theorem ok_four (a b c d : BitVec 8) : okS [a, b, c, d] = (a == 0#8 && (b == 0#8 && (c == 0#8 && d == 0#8))) := by
  unfold okS
  have e1 : ([a, b, c, d] : List (BitVec 8)).take ([a, b, c, d].length - 4) = [] := rfl
  have e2 : ([a, b, c, d] : List (BitVec 8)).drop ([a, b, c, d].length - 4) = [a, b, c, d] := rfl
  have e3 : laidS 0#32 = [0#8, 0#8, 0#8, 0#8] := by decide
  have e4 : decide (4 ≤ ([a, b, c, d] : List (BitVec 8)).length) = true := rfl
  rw [e1, e2, of_nil, e3, e4]
  rw [Bool.true_and, Bool.eq_iff_iff]
  simp
theorem seal_nil : sealS [] = [0#8, 0#8, 0#8, 0#8] := by decide
end Qm
theorem iv_zero {x : BitVec 8} (h : ¬ x = 0#8) : ¬ (iv x = 0) := fun e => h (iv_inj (e.trans (by decide)))
theorem zeros_sees (w : World) : SeesB (w.alloc (.cells #[.int .u8 0, .int .u8 0, .int .u8 0, .int .u8 0] 5)) (.slice (some ⟨w.heap.size, 0, none⟩) 4 4) [0#8, 0#8, 0#8, 0#8] := by
  refine ⟨some ⟨w.heap.size, 0, none⟩, 4, rfl, ⟨Nat.le_refl _, fun e => by cases e⟩, fun k u hu => ⟨_, rfl, by simp, ?_⟩⟩
  have ha : (⟨w.heap.size, 0, none⟩ : Addr).add k = ⟨w.heap.size, k, none⟩ := by unfold Addr.add; split <;> simp_all
  rw [ha, cell_of_tab (heap_new w _)]
  have e : (([0#8, 0#8, 0#8, 0#8] : List (BitVec 8)).map vb).toArray = #[.int .u8 0, .int .u8 0, .int .u8 0, .int .u8 0] := by kernel_rfl
  rw [← e]
  simpa using hu
set_option maxRecDepth 20000 in
set_option maxHeartbeats 4000000 in
theorem sumShort_walk (v : Value) (ys : List (BitVec 8)) (w : World) (hs : SeesB w v ys) :
    Calls Try.prog 7 #[v] w fun e w' => e = .returned (.bool true) ∧ Below w.heap.size w w' := by
  obtain ⟨ao, cap, rfl⟩ := hs.slice
  by_cases hl : 4 < ys.length
  · generalize ys.length = n at *
    have hl' : (4 : Int) < (n : Int) := by omega
    go_enter Try.func7, Try.ntmps7
    go_wp2_with (go_at_call 8; refine (shown_any _).mono ?_; rintro e w1 ⟨rfl, b1⟩)
    go_ret
    exact ⟨rfl, b1⟩
  · have kO := fun (u : World) (h : Below w.heap.size w u) => open_any _ ys (by omega) u (hs.below h)
    by_cases h4 : ys.length < 4
    · have e1 : openE ys = 4 := by unfold openE; rw [if_pos h4]
      have e2 : openS ys = [] := by unfold openS; rw [ok_short h4]; rfl
      rw [e1, e2] at kO
      generalize ys.length = n at *
      have hl' : ¬ ((4 : Int) < (n : Int)) := by omega
      have h4' : (n : Int) < 4 := by omega
      go_enter Try.func7, Try.ntmps7
      go_wp2_with (first
        | (go_at_call 8; refine (shown_any _).mono ?_; rintro e w1 ⟨rfl, b1⟩)
        | (go_at_call 9; refine (kO _ b1).mono ?_; rintro e w2 ⟨x, rfl, hx, b2⟩; obtain ⟨xo, xc, rfl⟩ := hx.slice))
      go_ret
      exact ⟨rfl, bt b1 b2⟩
    · have hn : ys.length = 4 := by omega
      obtain ⟨a, b, c, d, rfl⟩ : ∃ a b c d, ys = [a, b, c, d] := by
        match ys, hn with
        | [a, b, c, d], _ => exact ⟨a, b, c, d, rfl⟩
      obtain ⟨ad, rfl, l0, c0⟩ := hs.at 0 (by simp)
      obtain ⟨_, e1, _, c1⟩ := hs.at 1 (by simp)
      obtain ⟨_, e2, _, c2⟩ := hs.at 2 (by simp)
      obtain ⟨_, e3, _, c3⟩ := hs.at 3 (by simp)
      cases e1; cases e2; cases e3
      have x0 : w.cell? ad = some (.int .u8 (iv a)) := c0
      have x1 : w.cell? ⟨ad.block, ad.off + 1, none⟩ = some (.int .u8 (iv b)) := c1
      have x2 : w.cell? ⟨ad.block, ad.off + 2, none⟩ = some (.int .u8 (iv c)) := c2
      have x3 : w.cell? ⟨ad.block, ad.off + 3, none⟩ = some (.int .u8 (iv d)) := c3
      have hE : openE [a, b, c, d] = if okS [a, b, c, d] then 0 else 3 := by unfold openE; rw [if_neg h4]
      rw [hE, ok_four] at kO
      have K : Hid (∀ u, Below w.heap.size w u → u.cell? ad = some (.int .u8 (iv a)) ∧ u.cell? ⟨ad.block, ad.off + 1, none⟩ = some (.int .u8 (iv b)) ∧ u.cell? ⟨ad.block, ad.off + 2, none⟩ = some (.int .u8 (iv c)) ∧ u.cell? ⟨ad.block, ad.off + 3, none⟩ = some (.int .u8 (iv d))) := fun u h =>
        ⟨(h.cell l0).trans x0, (h.cell (p := ⟨ad.block, ad.off + 1, none⟩) l0).trans x1, (h.cell (p := ⟨ad.block, ad.off + 2, none⟩) l0).trans x2, (h.cell (p := ⟨ad.block, ad.off + 3, none⟩) l0).trans x3⟩
      have kS := fun (u : World) => seal_any _ [] (by decide) u (Row.nil u)
      have kZ := fun (u : World) (v : Value) (h : SeesB u v (sealS [])) (v' : Value) (h' : SeesB u v' [0#8, 0#8, 0#8, 0#8]) => rsame_any v v' _ _ u (by decide) (by decide) h h'
      have dz : decide (sealS [] = [0#8, 0#8, 0#8, 0#8]) = true := by decide
      rw [dz] at kZ
      have HO : Hid (∀ (b : World) (v : Value) B N, b.ownsRow B 5 1 v N ((sealS []).map vb) → SeesB b v (sealS [])) := fun b v B N h => Row.own h
      have hz : iv 0#8 = 0 := by decide
      clear hs c0 c1 c2 c3 x0 x1 x2 x3 hE hl h4 dz hn
      generalize sealS [] = Z at kS kZ HO
      by_cases ha : a = 0#8
      · subst ha
        by_cases hb : b = 0#8
        · subst hb
          by_cases hc : c = 0#8
          · subst hc
            by_cases hd : d = 0#8
            · subst hd
              simp only [beq_self_eq_true, Bool.and_self, if_true] at kO
              rw [hz] at K
              go_enter Try.func7, Try.ntmps7
              go_wp2_with (first
                | (go_at_call 8; refine (shown_any _).mono ?_; rintro e w1 ⟨rfl, b1⟩)
                | (go_at_call 9; refine (kO _ b1).mono ?_; rintro e w2 ⟨x, rfl, hx, b2⟩; obtain ⟨y0, y1, y2, y3⟩ := K.out _ (bt b1 b2))
                | (go_at_call 18; refine (kS _).mono ?_; rintro e w3 ⟨g, G, rfl, ho, b3⟩; have hs3 := HO.out _ _ _ _ ho)
                | (go_at_call 17; refine (kZ _ _ (hs3.below (box_below w3 _)) _ (zeros_sees w3)).mono ?_; rintro e w4 ⟨rfl, b4⟩))
              go_ret
              exact ⟨rfl, bt (bt (bt b1 b2) b3) (bt (box_below w3 _) b4)⟩
            · have hf : (d == 0#8) = false := by simpa using hd
              have hib : (iv d == 0) = false := by simpa using iv_zero hd
              have hi := iv_zero hd
              rw [hf] at kO
              simp only [Bool.and_false, Bool.false_eq_true, if_false] at kO
              rw [hz] at K
              go_enter Try.func7, Try.ntmps7
              go_wp2_with (first
                | (go_at_call 8; refine (shown_any _).mono ?_; rintro e w1 ⟨rfl, b1⟩)
                | (go_at_call 9; refine (kO _ b1).mono ?_; rintro e w2 ⟨x, rfl, hx, b2⟩; obtain ⟨y0, y1, y2, y3⟩ := K.out _ (bt b1 b2))
                | (go_at_call 18; refine (kS _).mono ?_; rintro e w3 ⟨g, G, rfl, ho, b3⟩; have hs3 := HO.out _ _ _ _ ho)
                | (go_at_call 17; refine (kZ _ _ (hs3.below (box_below w3 _)) _ (zeros_sees w3)).mono ?_; rintro e w4 ⟨rfl, b4⟩))
              go_ret
              exact ⟨rfl, bt (bt (bt b1 b2) b3) (bt (box_below w3 _) b4)⟩
          · have hf : (c == 0#8) = false := by simpa using hc
            have hib : (iv c == 0) = false := by simpa using iv_zero hc
            have hi := iv_zero hc
            rw [hf] at kO
            simp only [Bool.and_false, Bool.false_and, Bool.false_eq_true, if_false] at kO
            rw [hz] at K
            go_enter Try.func7, Try.ntmps7
            go_wp2_with (first
              | (go_at_call 8; refine (shown_any _).mono ?_; rintro e w1 ⟨rfl, b1⟩)
              | (go_at_call 9; refine (kO _ b1).mono ?_; rintro e w2 ⟨x, rfl, hx, b2⟩; obtain ⟨y0, y1, y2, y3⟩ := K.out _ (bt b1 b2))
              | (go_at_call 18; refine (kS _).mono ?_; rintro e w3 ⟨g, G, rfl, ho, b3⟩; have hs3 := HO.out _ _ _ _ ho)
              | (go_at_call 17; refine (kZ _ _ (hs3.below (box_below w3 _)) _ (zeros_sees w3)).mono ?_; rintro e w4 ⟨rfl, b4⟩))
            go_ret
            exact ⟨rfl, bt (bt (bt b1 b2) b3) (bt (box_below w3 _) b4)⟩
        · have hf : (b == 0#8) = false := by simpa using hb
          have hib : (iv b == 0) = false := by simpa using iv_zero hb
          have hi := iv_zero hb
          rw [hf] at kO
          simp only [Bool.and_false, Bool.false_and, Bool.false_eq_true, if_false] at kO
          rw [hz] at K
          go_enter Try.func7, Try.ntmps7
          go_wp2_with (first
            | (go_at_call 8; refine (shown_any _).mono ?_; rintro e w1 ⟨rfl, b1⟩)
            | (go_at_call 9; refine (kO _ b1).mono ?_; rintro e w2 ⟨x, rfl, hx, b2⟩; obtain ⟨y0, y1, y2, y3⟩ := K.out _ (bt b1 b2))
            | (go_at_call 18; refine (kS _).mono ?_; rintro e w3 ⟨g, G, rfl, ho, b3⟩; have hs3 := HO.out _ _ _ _ ho)
            | (go_at_call 17; refine (kZ _ _ (hs3.below (box_below w3 _)) _ (zeros_sees w3)).mono ?_; rintro e w4 ⟨rfl, b4⟩))
          go_ret
          exact ⟨rfl, bt (bt (bt b1 b2) b3) (bt (box_below w3 _) b4)⟩
      · have hf : (a == 0#8) = false := by simpa using ha
        have hib : (iv a == 0) = false := by simpa using iv_zero ha
        have hi := iv_zero ha
        rw [hf] at kO
        simp only [Bool.false_and, Bool.false_eq_true, if_false] at kO
        go_enter Try.func7, Try.ntmps7
        go_wp2_with (first
          | (go_at_call 8; refine (shown_any _).mono ?_; rintro e w1 ⟨rfl, b1⟩)
          | (go_at_call 9; refine (kO _ b1).mono ?_; rintro e w2 ⟨x, rfl, hx, b2⟩; obtain ⟨y0, y1, y2, y3⟩ := K.out _ (bt b1 b2))
          | (go_at_call 18; refine (kS _).mono ?_; rintro e w3 ⟨g, G, rfl, ho, b3⟩; have hs3 := HO.out _ _ _ _ ho)
          | (go_at_call 17; refine (kZ _ _ (hs3.below (box_below w3 _)) _ (zeros_sees w3)).mono ?_; rintro e w4 ⟨rfl, b4⟩))
        go_ret
        exact ⟨rfl, bt (bt (bt b1 b2) b3) (bt (box_below w3 _) b4)⟩
end Go.Proofs.Ytgamakjhndlffaa.Gr
