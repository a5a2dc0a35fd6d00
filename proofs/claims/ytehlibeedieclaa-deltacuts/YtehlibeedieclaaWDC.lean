/-
  The walk of DeltaCuts.
-/
import Derived.Test.YtehlibeedieclaaWDB
namespace Go.Proofs.Ytehlibeedieclaa.Gr
open Go.RowKit Go.Sort Dm
set_option linter.unusedVariables false

namespace Dm
theorem pad_get (l : List Int) {i : Nat} (hi : i < 8 * ((l.length + 7) / 8)) : (padS l)[i]? = some (if i < l.length then l.getD i 0 else 0) := by
  rw [padS_eq]
  by_cases h : i < l.length
  · rw [if_pos h, List.getElem?_append_left h, List.getElem?_eq_getElem h, List.getD_eq_getElem?_getD, List.getElem?_eq_getElem h]
    rfl
  · rw [if_neg h, List.getElem?_append_right (by omega), List.getElem?_replicate, if_pos (by omega)]
end Dm
set_option maxRecDepth 20000 in
set_option maxHeartbeats 2000000 in
theorem deltaCuts_walk (va : Value) (a : List Int) (w : World) (sa : SeesI w va a) (la : a.length ≤ 100000000000000) (ra : ∀ x ∈ a, -9223372036854775808 ≤ x ∧ x ≤ 9223372036854775807) :
    Calls Try.prog 8 #[va] w fun e w' => e = .returned (.bool true) ∧ Below w.heap.size w w' := by
  clear ra
  by_cases h6 : a.length ≤ 1000
  · have cP := fun (u : World) (h : Below w.heap.size w u) => parts_any va a u (by omega) (sa.below h)
    have cJ := fun (u : World) (v : Value) (sv : SeesA u v ((a.length + 7) / 8) (padS a)) => join_back v a u (by omega) sv
    have cS := fun (u : World) (ao : Option Addr) (cap : Nat) => join_size ao ((a.length + 7) / 8 + 1) cap a.length (by omega) (by omega) u
    have cE := fun (u : World) (h : Below w.heap.size w u) (v : Value) (sv : SeesI u v a) => ints_any v va a a u (by omega) (by omega) sv (sa.below h)
    have cM := fun (u : World) => many_any a.length (by omega) (by omega) u
    rw [piS_8] at cM
    rw [decide_eq_true rfl] at cE
    have hg := fun i (h : i < 8 * ((a.length + 7) / 8)) => pad_get a h
    have hQb : (a.length + 7) / 8 ≤ 130 := by omega
    generalize padS a = P at *
    generalize (a.length + 7) / 8 = Q at *
    obtain ⟨ao, cap, rfl⟩ := sa.slice
    have e1 : decide ((1000 : Int) < (a.length : Int)) = false := by simp; omega
    obtain ⟨N, hN⟩ : ∃ N, a.length = N := ⟨_, rfl⟩
    have HN : Hid (a.length = N) := hN
    rw [hN] at cP cJ cS cE cM hg sa e1 h6 ⊢
    clear hN
    go_enter Try.func8, Try.ntmps8
    go_wp2_with (first
      | (go_at_call 9; refine (shown9 _).mono ?_; rintro e w1 ⟨rfl, b1⟩)
      | (go_at_call 15; go_must (refine (cP _ b1).mono ?_); rintro e w3 ⟨v3, rfl, ho3, b3⟩; have bb3 := bt b1 b3; have s3 := SeesA.own ho3; obtain ⟨g3, c3, rfl⟩ := own_any ho3)
      | (go_at_call 17; go_must (refine (cM _).mono ?_); rintro e w4 ⟨rfl, b4⟩))
    have bb4 := bt bb3 b4
    have ho4 : w4.ownsRow w1.heap.size 35 8 (.slice g3 Q c3) Q (P.map vw) := by
      obtain ⟨hl, h0 | ⟨g, cap', cur, hv, hb, hg', r⟩⟩ := ho3
      · exact ⟨hl, .inl h0⟩
      · exact ⟨hl, .inr ⟨g, cap', cur, hv, hb, keep b4 hg', r⟩⟩
    have s4 := s3.below b4
    have h14 : w1.heap.size ≤ w4.heap.size := Nat.le_trans b3.size b4.size
    obtain ⟨Z, hZ⟩ : ∃ Z, 8 * Q = Z := ⟨_, rfl⟩
    have hQZ : 8 * (Q : Int) = (Z : Int) := by omega
    have wZ : wrap64 (Z : Int) = Z := by unfold wrap64; omega
    rw [hZ] at hg
    clear ho3 s3 b3 bb3 cP
    go_loopw [5] (fun i wr => ∃ k : Nat, k ≤ Z ∧ i = .int .i64 k ∧ Below w4.heap.size w4 wr) (fun i _ => Z - (intOf i).toNat)
    case atStart => exact ⟨0, Nat.zero_le _, rfl, Below.refl _ _⟩
    case round =>
      obtain ⟨k, hk, rfl, hbl⟩ := hrel
      by_cases hlt : k < Z
      · obtain ⟨gd, rfl, lg, cg⟩ := s4.at (k := k) (u := vw (if k < N then a.getD k 0 else 0)) (by rw [List.getElem?_map, hg k hlt]; rfl)
        have cg' : wr.cell? (gd.add k) = some (vw (if k < N then a.getD k 0 else 0)) := (hbl.cell (by rw [add_block]; exact lg)).trans cg
        have q1 : (k : Int).tdiv 8 = ((k / 8 : Nat) : Int) := by rw [Int.tdiv_eq_ediv_of_nonneg (by omega)]; omega
        have q2 : (k : Int).tmod 8 = ((k % 8 : Nat) : Int) := by rw [Int.tmod_eq_emod_of_nonneg (by omega)]; omega
        have q3 : ((k / 8 : Nat) : Int) < (Q : Int) := by omega
        have q4 : ((k % 8 : Nat) : Int) < 8 := by omega
        have q5 : (0 : Int) ≤ ((k / 8 : Nat) : Int) := by omega
        have q6 : (0 : Int) ≤ ((k % 8 : Nat) : Int) := by omega
        have q7 := wrap_i ((k / 8 : Nat) : Int) (by omega) (by omega)
        have q8 := wrap_i ((k % 8 : Nat) : Int) (by omega) (by omega)
        have q9 : (gd.add (k / 8 * 8)).add (k % 8) = gd.add k := by rw [add_add]; congr 1; omega
        clear cg
        by_cases hkN : k < N
        · obtain ⟨ad, rfl, la', ca⟩ := sa.at k (by rw [HN.out]; exact hkN)
          have ca' : wr.cell? (ad.add k) = _ := ((bt bb4 hbl).cell (by rw [add_block]; exact la')).trans ca
          rw [if_pos hkN] at cg'
          generalize a.getD k 0 = x at *
          clear ca hg
          --[a
          go_wp2
          go_roundw
          case rel => exact ⟨k + 1, by omega, by go_num, hbl⟩
          case measure => simp [intOf]; omega
          --]a
        · rw [if_neg hkN] at cg'
          clear hg
          --[b
          go_wp2
          go_roundw
          case rel => exact ⟨k + 1, by omega, by go_num, hbl⟩
          case measure => simp [intOf]; omega
          --]b
      · obtain rfl : k = Z := by omega
        obtain ⟨i0, hi, hz0, hz1, hz2⟩ := info_parts info35
        have ho5 := own_keep ho4 hbl
        have s5' := s4.below hbl
        have bbr := bt bb4 hbl
        have hb1r : w1.heap.size ≤ wr.heap.size := Nat.le_trans h14 hbl.size
        have hlt3 : ∀ k, (Value.slice g3 Q c3).ownBlock = some k → k < wr.heap.size := fun k e => (ho5.lt k e).2
        have hge3 : ∀ k, (Value.slice g3 Q c3).ownBlock = some k → w1.heap.size ≤ k := fun k e => (ho5.lt k e).1
        have hcells : ∀ (u : World) (j : Nat) (x : Value), (List.replicate 8 (Value.int .i64 0))[j]? = some x → (u.alloc (.cells #[.int .i64 0, .int .i64 0, .int .i64 0, .int .i64 0, .int .i64 0, .int .i64 0, .int .i64 0, .int .i64 0] 35)).cell? ((⟨u.heap.size, 0, none⟩ : Addr).add j) = some x := by
          intro u j x hx
          have e : (⟨u.heap.size, 0, none⟩ : Addr).add j = ⟨u.heap.size, j, none⟩ := by unfold Addr.add; split <;> simp_all
          rw [e, cell_of_tab (heap_new u _) j]
          simpa using hx
        have hones : ∀ u ∈ List.replicate 8 (Value.int .i64 0), u.oneCell' = true := fun u hu => by rw [(List.mem_replicate.1 hu).2]; rfl
        --[c
        go_wp2_with (first
          | (have _ := b6; go_at_call 16; go_must (refine (cS _ _ _).mono ?_); rintro e w7 ⟨rfl, b7⟩; have s7 := s6.below b7; have bb7 := bt bb6 b7)
          | (go_at_call 16; go_must (refine (cJ _ _ s5').mono ?_); rintro e w5 ⟨v5, rfl, s5, n5, b5⟩)
          | (at_builtin; go_must (refine wpList_append_own _ rfl _ _ 31 rfl w1.heap.size 35 i0 _ 8 64 under31 hi hz0 hz1 hz2 rfl (by decide) _ _ _ rfl ((own_keep ho5 b5).alloc _) _ 1 1 (List.replicate 8 (.int .i64 0)) rfl rfl (hcells w5) hones (by unfold maxLen; omega) (by omega) (le_alloc (Nat.le_trans hb1r b5.size) _) ?_); intro v6 w6 ho6 g6 _; have s6 := ((s5.below (box_below w5 _)).grown n5 g6 hlt3); have bb6 : Below w.heap.size w w6 := (((bt bbr b5).alloc (Nat.le_trans bbr.size b5.size) _).grown g6 (le_alloc (Nat.le_trans bbr.size b5.size) _) (fun k e => Nat.le_trans b1.size (hge3 k e))); have b6 : True := trivial; obtain ⟨g6', c6, rfl⟩ := own_any ho6)
          | (go_at_call 14; go_must (refine (cE _ bb7 _ s7).mono ?_); rintro e w8 ⟨rfl, b8⟩))
        go_ret
        exact ⟨rfl, bt bb7 b8⟩
        --]c
  · obtain ⟨ao, cap, rfl⟩ := sa.slice
    have e1 : decide ((1000 : Int) < (a.length : Int)) = true := by simp; omega
    clear h6
    go_enter Try.func8, Try.ntmps8
    go_wp2_with (go_at_call 9; refine (shown9 _).mono ?_; rintro e w1 ⟨rfl, b1⟩)
    go_ret
    exact ⟨rfl, b1⟩
end Go.Proofs.Ytehlibeedieclaa.Gr
