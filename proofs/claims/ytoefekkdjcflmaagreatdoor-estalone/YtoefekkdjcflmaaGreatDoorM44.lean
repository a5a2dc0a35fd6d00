/- Parts of the proof. -/
import Derived.Test.YtoefekkdjcflmaaGreatDoorM43
namespace Go.Proofs.YtoefekkdjcflmaaGreatDoor.Et
open Go.RowKit Go.Sort Go.Proofs.YtoefekkdjcflmaaGreatDoor.Qm
theorem in_zeros : AllIn [0, 0, 0] := fun p => by
  rcases p with _ | _ | _ | p
  · exact ⟨by decide, by decide⟩
  · exact ⟨by decide, by decide⟩
  · exact ⟨by decide, by decide⟩
  · constructor <;> simp [ge]
theorem in_vary : AllIn [1677721600, 167772160, 16777216] := fun p => by
  rcases p with _ | _ | _ | p
  · exact ⟨by decide, by decide⟩
  · exact ⟨by decide, by decide⟩
  · exact ⟨by decide, by decide⟩
  · constructor <;> simp [ge]
set_option maxRecDepth 20000 in
set_option maxHeartbeats 8000000 in
theorem init_yes (c : Nat → Int) (w : World) (hm : mayB c = true) :
    Calls Tryz.prog 17 #[.agg #[.int .i64 (c 0), .int .i64 (c 1), .int .i64 (c 2), .int .i64 (c 3), .int .i64 (c 4), .int .i64 (c 5)]] w fun z b => ∃ vx vp, z = .returned (.tuple #[.agg (iniE.cells vx vp), .int .i64 0]) ∧ iniE.See b vx vp ∧ (∀ i, i < 3 → New w.heap.size (vx i) ∧ New w.heap.size (vp i)) ∧ Below w.heap.size w b := by
  have hM := may_any c
  rw [hm] at hM
  obtain ⟨p1, p2⟩ := allocs2 w (.cells #[.int .i64 (c 0), .int .i64 (c 1), .int .i64 (c 2), .int .i64 (c 3), .int .i64 (c 4), .int .i64 (c 5)] 24) (.cells #[.int .i64 0, .int .i64 0, .int .i64 0, .int .i64 0, .int .i64 0, .int .i64 0, .slice none 0 0, .int .i64 0, .int .i64 0, .slice none 0 0, .int .i64 0, .int .i64 0, .slice none 0 0, .int .i64 0, .int .i64 0, .slice none 0 0, .int .i64 0, .int .i64 0, .slice none 0 0, .int .i64 0, .int .i64 0, .slice none 0 0, .int .i64 0, .int .i64 0, .int .i64 0, .int .i64 0, .int .i64 0, .int .i64 0, .bool false] 35)
  have bW := ball2 w (.cells #[.int .i64 (c 0), .int .i64 (c 1), .int .i64 (c 2), .int .i64 (c 3), .int .i64 (c 4), .int .i64 (c 5)] 24) (.cells #[.int .i64 0, .int .i64 0, .int .i64 0, .int .i64 0, .int .i64 0, .int .i64 0, .slice none 0 0, .int .i64 0, .int .i64 0, .slice none 0 0, .int .i64 0, .int .i64 0, .slice none 0 0, .int .i64 0, .int .i64 0, .slice none 0 0, .int .i64 0, .int .i64 0, .slice none 0 0, .int .i64 0, .int .i64 0, .slice none 0 0, .int .i64 0, .int .i64 0, .int .i64 0, .int .i64 0, .int .i64 0, .int .i64 0, .bool false] 35)
  obtain ⟨V, hV⟩ : ∃ V, (w.alloc (.cells #[.int .i64 (c 0), .int .i64 (c 1), .int .i64 (c 2), .int .i64 (c 3), .int .i64 (c 4), .int .i64 (c 5)] 24)).alloc (.cells #[.int .i64 0, .int .i64 0, .int .i64 0, .int .i64 0, .int .i64 0, .int .i64 0, .slice none 0 0, .int .i64 0, .int .i64 0, .slice none 0 0, .int .i64 0, .int .i64 0, .slice none 0 0, .int .i64 0, .int .i64 0, .slice none 0 0, .int .i64 0, .int .i64 0, .slice none 0 0, .int .i64 0, .int .i64 0, .slice none 0 0, .int .i64 0, .int .i64 0, .int .i64 0, .int .i64 0, .int .i64 0, .int .i64 0, .bool false] 35) = V := ⟨_, rfl⟩
  have HV : Hid (_ = V) := hV
  have hMV := hM V
  rw [← hV] at hMV
  rw [hV] at p1 p2 bW
  have hVz : w.heap.size + 2 ≤ V.heap.size := by rw [← hV]; simp
  clear hV hM
  go_enter Tryz.func17, Tryz.ntmps17
  go_upto_region 3 with (go_at_call 19; go_must (refine hMV.mono ?_); rintro z w1 ⟨rfl, b1⟩; rw [HV.out] at b1)
  refine in3_seq ?_
  have bI := box_below w1 (.cells #[.int .i64 16777216, .int .i64 0, .int .i64 0, .int .i64 0, .int .i64 0, .int .i64 0, .slice none 0 0, .int .i64 0, .int .i64 0, .slice none 0 0, .int .i64 0, .int .i64 0, .slice none 0 0, .int .i64 0, .int .i64 0, .slice none 0 0, .int .i64 0, .int .i64 0, .slice none 0 0, .int .i64 0, .int .i64 0, .slice none 0 0, .int .i64 0, .int .i64 0, .int .i64 0, .int .i64 0, .int .i64 0, .int .i64 0, .bool false] 35)
  have gI := heap_new w1 (.cells #[.int .i64 16777216, .int .i64 0, .int .i64 0, .int .i64 0, .int .i64 0, .int .i64 0, .slice none 0 0, .int .i64 0, .int .i64 0, .slice none 0 0, .int .i64 0, .int .i64 0, .slice none 0 0, .int .i64 0, .int .i64 0, .slice none 0 0, .int .i64 0, .int .i64 0, .slice none 0 0, .int .i64 0, .int .i64 0, .slice none 0 0, .int .i64 0, .int .i64 0, .int .i64 0, .int .i64 0, .int .i64 0, .int .i64 0, .bool false] 35)
  have p2' := keep bI (keep b1 p2)
  have b0 := bt (bt bW b1) bI
  have hz1 := b1.size
  have hI0 : IniI w1.heap.size 0 (w1.alloc (.cells #[.int .i64 16777216, .int .i64 0, .int .i64 0, .int .i64 0, .int .i64 0, .int .i64 0, .slice none 0 0, .int .i64 0, .int .i64 0, .slice none 0 0, .int .i64 0, .int .i64 0, .slice none 0 0, .int .i64 0, .int .i64 0, .slice none 0 0, .int .i64 0, .int .i64 0, .slice none 0 0, .int .i64 0, .int .i64 0, .slice none 0 0, .int .i64 0, .int .i64 0, .int .i64 0, .int .i64 0, .int .i64 0, .int .i64 0, .bool false] 35)) := ⟨fun _ => undef, fun _ => undef, ⟨_, _, gI, by simp, fun k hk => by
    have e : iniF 0 (fun _ => undef) (fun _ => undef) k = (#[.int .i64 16777216, .int .i64 0, .int .i64 0, .int .i64 0, .int .i64 0, .int .i64 0, .slice none 0 0, .int .i64 0, .int .i64 0, .slice none 0 0, .int .i64 0, .int .i64 0, .slice none 0 0, .int .i64 0, .int .i64 0, .slice none 0 0, .int .i64 0, .int .i64 0, .slice none 0 0, .int .i64 0, .int .i64 0, .slice none 0 0, .int .i64 0, .int .i64 0, .int .i64 0, .int .i64 0, .int .i64 0, .int .i64 0, .bool false] : Array Value).getD k undef := by unfold iniF; rw [if_neg (by omega)]
    rw [e]; simp [Array.getD, hk]⟩, fun i hi => by omega⟩
  clear gI
  generalize w1.alloc (.cells #[.int .i64 16777216, .int .i64 0, .int .i64 0, .int .i64 0, .int .i64 0, .int .i64 0, .slice none 0 0, .int .i64 0, .int .i64 0, .slice none 0 0, .int .i64 0, .int .i64 0, .slice none 0 0, .int .i64 0, .int .i64 0, .slice none 0 0, .int .i64 0, .int .i64 0, .slice none 0 0, .int .i64 0, .int .i64 0, .slice none 0 0, .int .i64 0, .int .i64 0, .int .i64 0, .int .i64 0, .int .i64 0, .int .i64 0, .bool false] 35) = w2 at bI p2' b0 hI0 ⊢
  go_wp2
  go_loopw [12] (fun i wr => ∃ k : Nat, k ≤ 3 ∧ i = .int .i64 k ∧ IniI w1.heap.size k wr ∧ Mod (fun b => b = w1.heap.size) w2 wr) (fun i _ => 3 - (intOf i).toNat)
  case atStart => exact ⟨0, Nat.zero_le _, rfl, hI0, Mod.refl _ _⟩
  case round =>
    obtain ⟨k, hk, rfl, hI, hmd⟩ := hrel
    have hz2 := bI.size
    have hzr := hmd.size
    by_cases h3k : k = 3
    · subst h3k
      obtain ⟨vx, vp, h1, h2⟩ := hI
      have p2r := (hmd.block _ (lt_of_block p2') (by omega)).trans p2'
      have a2 : Wk 29 wr (w.heap.size + 1) (fun k => (#[.int .i64 0, .int .i64 0, .int .i64 0, .int .i64 0, .int .i64 0, .int .i64 0, .slice none 0 0, .int .i64 0, .int .i64 0, .slice none 0 0, .int .i64 0, .int .i64 0, .slice none 0 0, .int .i64 0, .int .i64 0, .slice none 0 0, .int .i64 0, .int .i64 0, .slice none 0 0, .int .i64 0, .int .i64 0, .slice none 0 0, .int .i64 0, .int .i64 0, .int .i64 0, .int .i64 0, .int .i64 0, .int .i64 0, .bool false] : Array Value).getD k undef) := ⟨_, _, p2r, by simp, fun k hk => by simp [Array.getD, hk]⟩
      obtain ⟨a0, b0', x0⟩ := (h2 0 (by decide)).1.slice
      obtain ⟨a1, b1', x1⟩ := (h2 1 (by decide)).1.slice
      obtain ⟨a2', b2', x2⟩ := (h2 2 (by decide)).1.slice
      obtain ⟨c0', d0', y0⟩ := (h2 0 (by decide)).2.1.slice
      obtain ⟨c1', d1', y1⟩ := (h2 1 (by decide)).2.1.slice
      obtain ⟨c2', d2', y2⟩ := (h2 2 (by decide)).2.1.slice
      have hrg := h1.range 0 29 (by decide)
      have hev : (List.range 29).map (fun j => iniF 3 vx vp (0 + j)) = [.int .i64 16777216, .int .i64 0, .int .i64 0, .int .i64 0, .int .i64 3, .int .i64 1, vx 0, .int .i64 3, .int .i64 3, vp 0, .int .i64 3, .int .i64 1, vx 1, .int .i64 3, .int .i64 3, vp 1, .int .i64 3, .int .i64 1, vx 2, .int .i64 3, .int .i64 3, vp 2, .int .i64 0, .int .i64 0, .int .i64 0, .int .i64 0, .int .i64 0, .int .i64 0, .bool false] := rfl
      rw [hev, x0, x1, x2, y0, y1, y2] at hrg
      have hlt := h1.lt
      have hsee : ∀ v, Mod (fun b => b = w.heap.size + 1) wr v → ∀ i, i < 3 → Sees v (vx i) [0, 0, 0] ∧ Sees v (vp i) (dia (ge [1677721600, 167772160, 16777216]) 3) := fun v hv i hi => by
        obtain ⟨q1, q2, q3, q4⟩ := h2 i hi
        exact ⟨q1.agree hv.size fun q hq => hv.block q (q1.lt (by decide) q hq) (by have := q3 q hq; omega), q2.agree hv.size fun q hq => hv.block q (q2.lt (by rw [pd_len]; decide) q hq) (by have := q4 q hq; omega)⟩
      have hnew : ∀ i, i < 3 → New w.heap.size (vx i) ∧ New w.heap.size (vp i) := fun i hi => ⟨fun q hq => by have := (h2 i hi).2.2.1 q hq; omega, fun q hq => by have := (h2 i hi).2.2.2 q hq; omega⟩
      clear h1 h2 hev hI0 p2r
      go_upto_region 9 with fail
      refine in9_seq (D2 := w.heap.size + 1) (D4 := w1.heap.size) (tu := iniE.tu) (r := fun _ => 3) (c := fun _ => 1) (r' := fun _ => 3) (c' := fun _ => 3) (xo := fun i => [a0, a1, a2'].getD i none) (xn := fun _ => 3) (xc := fun i => [b0', b1', b2'].getD i 0) (po := fun i => [c0', c1', c2'].getD i none) (pn := fun _ => (dia (ge [1677721600, 167772160, 16777216]) 3).length) (pc := fun i => [d0', d1', d2'].getD i 0) (st := 0) (co := 0) (off := fun _ => 0) (sat := false) a2.there hrg ?_
      have hc := set_cells (cs := [.int .i64 16777216, .int .i64 0, .int .i64 0, .int .i64 0, .int .i64 3, .int .i64 1, .slice a0 3 b0', .int .i64 3, .int .i64 3, .slice c0' (dia (ge [1677721600, 167772160, 16777216]) 3).length d0', .int .i64 3, .int .i64 1, .slice a1 3 b1', .int .i64 3, .int .i64 3, .slice c1' (dia (ge [1677721600, 167772160, 16777216]) 3).length d1', .int .i64 3, .int .i64 1, .slice a2' 3 b2', .int .i64 3, .int .i64 3, .slice c2' (dia (ge [1677721600, 167772160, 16777216]) 3).length d2', .int .i64 0, .int .i64 0, .int .i64 0, .int .i64 0, .int .i64 0, .int .i64 0, .bool false]) a2 rfl
      have hmm := mod_setCells (b := w.heap.size + 1) [.int .i64 16777216, .int .i64 0, .int .i64 0, .int .i64 0, .int .i64 3, .int .i64 1, .slice a0 3 b0', .int .i64 3, .int .i64 3, .slice c0' (dia (ge [1677721600, 167772160, 16777216]) 3).length d0', .int .i64 3, .int .i64 1, .slice a1 3 b1', .int .i64 3, .int .i64 3, .slice c1' (dia (ge [1677721600, 167772160, 16777216]) 3).length d1', .int .i64 3, .int .i64 1, .slice a2' 3 b2', .int .i64 3, .int .i64 3, .slice c2' (dia (ge [1677721600, 167772160, 16777216]) 3).length d2', .int .i64 0, .int .i64 0, .int .i64 0, .int .i64 0, .int .i64 0, .int .i64 0, .bool false] 0 wr
      go_wp2
      refine bodyPost_ret (results_init rfl rfl rfl hc) rfl ?_
      refine ⟨vx, vp, ?_, hsee _ hmm, hnew, ?_⟩
      · unfold Es.cells
        rw [x0, x1, x2, y0, y1, y2]
        rfl
      · exact (b0.trans (hmd.below (by omega) (fun q hq => by have hq' : q = w1.heap.size := hq; omega))).trans (hmm.below (by omega) (fun q hq => by have hq' : q = w.heap.size + 1 := hq; omega))
    rcases (by omega : k = 0 ∨ k = 1 ∨ k = 2) with rfl | rfl | rfl
    · have hmk := run_make3 wr
      obtain ⟨g1, g2⟩ := allocs2 wr (.cells #[.int .i64 0, .int .i64 0, .int .i64 0] 22) (.cells #[.int .i64 1677721600, .int .i64 167772160, .int .i64 16777216] 22)
      have bA := ball2 wr (.cells #[.int .i64 0, .int .i64 0, .int .i64 0] 22) (.cells #[.int .i64 1677721600, .int .i64 167772160, .int .i64 16777216] 22)
      have kN := knew_new _ _ [0, 0, 0] [1677721600, 167772160, 16777216] (by decide) (by decide) rfl in_zeros in_vary (fun i hi => by have hi' : i < 3 := hi; rcases (by omega : i = 0 ∨ i = 1 ∨ i = 2) with rfl | rfl | rfl <;> decide) _ (sees_row (xs := [0, 0, 0]) g1 rfl) (sees_row (xs := [1677721600, 167772160, 16777216]) g2 rfl)
      clear g1 g2
      have hWr : w1.heap.size < wr.heap.size := by obtain ⟨_, _, h1, _⟩ := hI; exact h1.lt
      have hzA := bA.size
      go_wp2_with fail
      refine kN.mono ?_
      rintro z wa ⟨va, vb, rfl, sa, sb, na, nb, ba⟩
      obtain ⟨ao, ac, rfl⟩ := sa.slice
      obtain ⟨bo, bc, rfl⟩ := sb.slice
      have hI' := hI.below (bt bA ba)
      have HN : Hid _ := ini_step0 hI' sa sb (fun q hq => by have := na q hq; omega) (fun q hq => by have := nb q hq; omega)
      have mA : Mod (fun b => b = w1.heap.size) w2 wa := hmd.trans (Mod.of (bt bA ba))
      obtain ⟨_, _, h1, _⟩ := hI'
      have e0 := h1.cell (k := 4) (by decide) rfl
      have f0 := h1.frozen 4
      have e1 := h1.cell (k := 5) (by decide) rfl
      have f1 := h1.frozen 5
      have e2 := h1.cell (k := 6) (by decide) rfl
      have f2 := h1.frozen 6
      have e3 := h1.cell (k := 7) (by decide) rfl
      have f3 := h1.frozen 7
      have e4 := h1.cell (k := 8) (by decide) rfl
      have f4 := h1.frozen 8
      have e5 := h1.cell (k := 9) (by decide) rfl
      have f5 := h1.frozen 9
      clear h1 kN sa sb
      go_wp2
      go_roundw
      case rel => exact ⟨0 + 1, by decide, by go_num, HN.out, mA.trans (((((mod_set.trans mod_set).trans mod_set).trans mod_set).trans mod_set).trans mod_set)⟩
      case measure => simp [intOf]
    · have hmk := run_make3 wr
      obtain ⟨g1, g2⟩ := allocs2 wr (.cells #[.int .i64 0, .int .i64 0, .int .i64 0] 22) (.cells #[.int .i64 1677721600, .int .i64 167772160, .int .i64 16777216] 22)
      have bA := ball2 wr (.cells #[.int .i64 0, .int .i64 0, .int .i64 0] 22) (.cells #[.int .i64 1677721600, .int .i64 167772160, .int .i64 16777216] 22)
      have kN := knew_new _ _ [0, 0, 0] [1677721600, 167772160, 16777216] (by decide) (by decide) rfl in_zeros in_vary (fun i hi => by have hi' : i < 3 := hi; rcases (by omega : i = 0 ∨ i = 1 ∨ i = 2) with rfl | rfl | rfl <;> decide) _ (sees_row (xs := [0, 0, 0]) g1 rfl) (sees_row (xs := [1677721600, 167772160, 16777216]) g2 rfl)
      clear g1 g2
      have hWr : w1.heap.size < wr.heap.size := by obtain ⟨_, _, h1, _⟩ := hI; exact h1.lt
      have hzA := bA.size
      go_wp2_with fail
      refine kN.mono ?_
      rintro z wa ⟨va, vb, rfl, sa, sb, na, nb, ba⟩
      obtain ⟨ao, ac, rfl⟩ := sa.slice
      obtain ⟨bo, bc, rfl⟩ := sb.slice
      have hI' := hI.below (bt bA ba)
      have HN : Hid _ := ini_step1 hI' sa sb (fun q hq => by have := na q hq; omega) (fun q hq => by have := nb q hq; omega)
      have mA : Mod (fun b => b = w1.heap.size) w2 wa := hmd.trans (Mod.of (bt bA ba))
      obtain ⟨_, _, h1, _⟩ := hI'
      have e0 := h1.cell (k := 10) (by decide) rfl
      have f0 := h1.frozen 10
      have e1 := h1.cell (k := 11) (by decide) rfl
      have f1 := h1.frozen 11
      have e2 := h1.cell (k := 12) (by decide) rfl
      have f2 := h1.frozen 12
      have e3 := h1.cell (k := 13) (by decide) rfl
      have f3 := h1.frozen 13
      have e4 := h1.cell (k := 14) (by decide) rfl
      have f4 := h1.frozen 14
      have e5 := h1.cell (k := 15) (by decide) rfl
      have f5 := h1.frozen 15
      clear h1 kN sa sb
      go_wp2
      go_roundw
      case rel => exact ⟨1 + 1, by decide, by go_num, HN.out, mA.trans (((((mod_set.trans mod_set).trans mod_set).trans mod_set).trans mod_set).trans mod_set)⟩
      case measure => simp [intOf]
    · have hmk := run_make3 wr
      obtain ⟨g1, g2⟩ := allocs2 wr (.cells #[.int .i64 0, .int .i64 0, .int .i64 0] 22) (.cells #[.int .i64 1677721600, .int .i64 167772160, .int .i64 16777216] 22)
      have bA := ball2 wr (.cells #[.int .i64 0, .int .i64 0, .int .i64 0] 22) (.cells #[.int .i64 1677721600, .int .i64 167772160, .int .i64 16777216] 22)
      have kN := knew_new _ _ [0, 0, 0] [1677721600, 167772160, 16777216] (by decide) (by decide) rfl in_zeros in_vary (fun i hi => by have hi' : i < 3 := hi; rcases (by omega : i = 0 ∨ i = 1 ∨ i = 2) with rfl | rfl | rfl <;> decide) _ (sees_row (xs := [0, 0, 0]) g1 rfl) (sees_row (xs := [1677721600, 167772160, 16777216]) g2 rfl)
      clear g1 g2
      have hWr : w1.heap.size < wr.heap.size := by obtain ⟨_, _, h1, _⟩ := hI; exact h1.lt
      have hzA := bA.size
      go_wp2_with fail
      refine kN.mono ?_
      rintro z wa ⟨va, vb, rfl, sa, sb, na, nb, ba⟩
      obtain ⟨ao, ac, rfl⟩ := sa.slice
      obtain ⟨bo, bc, rfl⟩ := sb.slice
      have hI' := hI.below (bt bA ba)
      have HN : Hid _ := ini_step2 hI' sa sb (fun q hq => by have := na q hq; omega) (fun q hq => by have := nb q hq; omega)
      have mA : Mod (fun b => b = w1.heap.size) w2 wa := hmd.trans (Mod.of (bt bA ba))
      obtain ⟨_, _, h1, _⟩ := hI'
      have e0 := h1.cell (k := 16) (by decide) rfl
      have f0 := h1.frozen 16
      have e1 := h1.cell (k := 17) (by decide) rfl
      have f1 := h1.frozen 17
      have e2 := h1.cell (k := 18) (by decide) rfl
      have f2 := h1.frozen 18
      have e3 := h1.cell (k := 19) (by decide) rfl
      have f3 := h1.frozen 19
      have e4 := h1.cell (k := 20) (by decide) rfl
      have f4 := h1.frozen 20
      have e5 := h1.cell (k := 21) (by decide) rfl
      have f5 := h1.frozen 21
      clear h1 kN sa sb
      go_wp2
      go_roundw
      case rel => exact ⟨2 + 1, by decide, by go_num, HN.out, mA.trans (((((mod_set.trans mod_set).trans mod_set).trans mod_set).trans mod_set).trans mod_set)⟩
      case measure => simp [intOf]
theorem Tryz.infoW : (Tryz.prog.info? 2).map (fun i => (i.zero, i.size, i.bytes)) = some (some (.int .i64 0), 1, 8) := by kernel_rfl
theorem Tryz.underW : Tryz.prog.underlying 53 = some (.slice 2) := by kernel_rfl
theorem bit_any (b : Bool) (w : World) : Calls Tryz.prog 57 #[.bool b] w fun e w' => e = .returned (.int .i64 (if b then 1 else 0)) ∧ w' = w := by
  cases b
  all_goals
    go_enter Tryz.func57, Tryz.ntmps57
    go_wp2
    go_ret
    exact ⟨rfl, rfl⟩
theorem sees_own {w : World} {base n : Nat} {e : TypeId} {v : Value} {xs : List Int} (h : w.ownsRow base e 1 v n (xs.map (Value.int .i64))) : Sees w v xs := by
  have hn : n = xs.length := by have := h.1; simp at this; omega
  subst hn
  rcases h.2 with ⟨rfl, h0⟩ | ⟨g, cap, cur, rfl, hb, hg, hcp, _⟩
  · exact ⟨none, ⟨0, by omega⟩, by show Value.slice none 0 0 = Value.slice none xs.length 0; rw [h0], fun k hk => by omega⟩
  · refine ⟨_, ⟨cap, hcp⟩, rfl, fun k hk => ⟨_, rfl, (Array.getElem?_eq_some_iff.1 hg).1, ?_⟩⟩
    exact h.cells (g := g) rfl k _ (by rw [List.getElem?_map]; unfold ge; rw [List.getD_eq_getElem?_getD, List.getElem?_eq_getElem hk]; rfl)
theorem own_bel {B n : Nat} {e : TypeId} {w w' : World} {v : Value} {xs : List Value} (h : w.ownsRow B e 1 v n xs) (hb : Below w.heap.size w w') : w'.ownsRow B e 1 v n xs := h.kept (gb_below none hb) (by cases hv : v.ownBlock <;> simp)
set_option maxRecDepth 20000 in
set_option maxHeartbeats 1600000 in
theorem wq_any (vm : Value) (ys : List Int) (hy : ys.length ≤ 64) (w : World) (sm : Sees w vm ys) :
    Calls Tryz.prog 55 #[vm] w fun e b => ∃ s', e = .returned s' ∧ Sees b s' ys ∧ New w.heap.size s' ∧ Below w.heap.size w b := by
  obtain ⟨i0, hi, hz0, hz1, hz2⟩ := info_parts Tryz.infoW
  obtain ⟨mo, mcap, rfl⟩ := sm.slice
  have HT : Hid (tab (fun k => ge ys k) ys.length = ys) := tab_ge rfl fun k _ => rfl
  obtain ⟨n, hn⟩ : ∃ n, ys.length = n := ⟨_, rfl⟩
  have HN : Hid (ys.length = n) := hn
  rw [hn] at hy sm HT ⊢
  clear hn
  go_enter Tryz.func55, Tryz.ntmps55
  go_wp2_with (at_make; go_must (refine wpList_make_own _ rfl _ _ 53 rfl w.heap.size 2 i0 (.int .i64 0) 1 Tryz.underW hi hz0 hz1 .i64 .i64 _ n rfl rfl rfl (by rw [hz2]; omega) (by unfold maxLen; omega) (by simp) ?_); intro w1 hown1 hg1; have hb1 := gb_none hg1; clear hg1)
  go_loopw [3, 11] (fun l i wr => ∃ a : Nat, a ≤ n ∧ i = .int .i64 a ∧ wr.ownsRow w.heap.size 2 1 l a ((tab (fun k => ge ys k) a).map (Value.int .i64)) ∧ Below w.heap.size w wr) (fun _ i _ => n - (intOf i).toNat)
  case atStart => exact ⟨0, Nat.zero_le _, rfl, by simpa [tab_zero] using hown1, hb1⟩
  case round =>
    clear hown1 hb1
    obtain ⟨a, ha, rfl, hown, hb⟩ := hrel
    by_cases hlt : a < n
    · have hcell : ∃ ad, mo = some ad ∧ wr.cell? (ad.add a) = some (.int .i64 (ge ys a)) := by
        obtain ⟨mo', cap', e1, hc⟩ := sm.below hb
        obtain ⟨ad, h1, _, h3⟩ := hc a (by rw [HN.out]; exact hlt)
        injection e1 with e2
        exact ⟨ad, by rw [e2]; exact h1, h3⟩
      obtain ⟨ad, rfl, hc⟩ := hcell
      have HL : Hid ((tab (fun k => ge ys k) (a + 1)).map (Value.int .i64) = (tab (fun k => ge ys k) a).map (Value.int .i64) ++ [.int .i64 (ge ys a)]) := by rw [tab_succ, List.map_append]; rfl
      generalize (tab (fun k => ge ys k) a).map (Value.int .i64) = vals at hown HL
      generalize ge ys a = y at hc HL
      have hWb := hb.size
      go_wp2_with (at_builtin; go_must (refine wpList_append_own _ rfl _ _ 53 rfl w.heap.size 2 i0 (.int .i64 0) 1 8 Tryz.underW hi hz0 hz1 hz2 rfl (by decide) _ _ _ rfl (hown.alloc _) ⟨_, 0, none⟩ 1 1 [.int .i64 y] rfl rfl c1_one c2_one (by unfold maxLen; omega) (by omega) (by simp; omega) ?_); intro v2 w2 hown2 hg2 hnil2; have HB2 : Below w.heap.size w w2 := hb.trans (((Below.refl _ _).alloc (by omega) _).grown hg2 (by simp; omega) (fun m e => (hown.lt m e).1)); clear hg2 hnil2)
      go_roundw
      case rel => exact ⟨a + 1, by omega, by go_num, by rw [HL.out]; exact hown2, HB2⟩
      case measure => simp [intOf]; omega
    · have e : a = n := by omega
      subst e
      rw [HT.out] at hown
      have hsees := sees_own hown
      have hnew := New.own hown
      obtain ⟨lo, lc, rfl⟩ := hsees.slice
      clear hown
      go_wp2
      go_ret
      exact ⟨_, rfl, hsees, hnew, hb⟩
set_option maxRecDepth 20000 in
set_option maxHeartbeats 1600000 in
theorem wi_any (vm : Value) (ys : List Int) (hy : ys.length ≤ 64) (w : World) (sm : Sees w vm ys) :
    Calls Tryz.prog 56 #[vm] w fun e b => ∃ s', e = .returned s' ∧ Sees b s' ys ∧ New w.heap.size s' ∧ Below w.heap.size w b := by
  obtain ⟨i0, hi, hz0, hz1, hz2⟩ := info_parts Tryz.infoW
  obtain ⟨mo, mcap, rfl⟩ := sm.slice
  have HT : Hid (tab (fun k => ge ys k) ys.length = ys) := tab_ge rfl fun k _ => rfl
  obtain ⟨n, hn⟩ : ∃ n, ys.length = n := ⟨_, rfl⟩
  have HN : Hid (ys.length = n) := hn
  rw [hn] at hy sm HT ⊢
  clear hn
  go_enter Tryz.func56, Tryz.ntmps56
  go_wp2_with (at_make; go_must (refine wpList_make_own _ rfl _ _ 53 rfl w.heap.size 2 i0 (.int .i64 0) 1 Tryz.underW hi hz0 hz1 .i64 .i64 _ n rfl rfl rfl (by rw [hz2]; omega) (by unfold maxLen; omega) (by simp) ?_); intro w1 hown1 hg1; have hb1 := gb_none hg1; clear hg1)
  go_loopw [3, 11] (fun l i wr => ∃ a : Nat, a ≤ n ∧ i = .int .i64 a ∧ wr.ownsRow w.heap.size 2 1 l a ((tab (fun k => ge ys k) a).map (Value.int .i64)) ∧ Below w.heap.size w wr) (fun _ i _ => n - (intOf i).toNat)
  case atStart => exact ⟨0, Nat.zero_le _, rfl, by simpa [tab_zero] using hown1, hb1⟩
  case round =>
    clear hown1 hb1
    obtain ⟨a, ha, rfl, hown, hb⟩ := hrel
    by_cases hlt : a < n
    · have hcell : ∃ ad, mo = some ad ∧ wr.cell? (ad.add a) = some (.int .i64 (ge ys a)) := by
        obtain ⟨mo', cap', e1, hc⟩ := sm.below hb
        obtain ⟨ad, h1, _, h3⟩ := hc a (by rw [HN.out]; exact hlt)
        injection e1 with e2
        exact ⟨ad, by rw [e2]; exact h1, h3⟩
      obtain ⟨ad, rfl, hc⟩ := hcell
      have HL : Hid ((tab (fun k => ge ys k) (a + 1)).map (Value.int .i64) = (tab (fun k => ge ys k) a).map (Value.int .i64) ++ [.int .i64 (ge ys a)]) := by rw [tab_succ, List.map_append]; rfl
      generalize (tab (fun k => ge ys k) a).map (Value.int .i64) = vals at hown HL
      generalize ge ys a = y at hc HL
      have hWb := hb.size
      go_wp2_with (at_builtin; go_must (refine wpList_append_own _ rfl _ _ 53 rfl w.heap.size 2 i0 (.int .i64 0) 1 8 Tryz.underW hi hz0 hz1 hz2 rfl (by decide) _ _ _ rfl (hown.alloc _) ⟨_, 0, none⟩ 1 1 [.int .i64 y] rfl rfl c1_one c2_one (by unfold maxLen; omega) (by omega) (by simp; omega) ?_); intro v2 w2 hown2 hg2 hnil2; have HB2 : Below w.heap.size w w2 := hb.trans (((Below.refl _ _).alloc (by omega) _).grown hg2 (by simp; omega) (fun m e => (hown.lt m e).1)); clear hg2 hnil2)
      go_roundw
      case rel => exact ⟨a + 1, by omega, by go_num, by rw [HL.out]; exact hown2, HB2⟩
      case measure => simp [intOf]; omega
    · have e : a = n := by omega
      subst e
      rw [HT.out] at hown
      have hsees := sees_own hown
      have hnew := New.own hown
      obtain ⟨lo, lc, rfl⟩ := hsees.slice
      clear hown
      go_wp2
      go_ret
      exact ⟨_, rfl, hsees, hnew, hb⟩
structure Ly (base D n : Nat) (xs : List Int) (w : World) : Prop where
  v : ∃ l, w.heap[D]? = some (.cells #[l] 53 (0, 0)) ∧ w.ownsRow base 2 1 l n (xs.map (Value.int .i64))
  b : base ≤ D
  z : base ≤ w.heap.size
theorem Ly.below {base D n : Nat} {xs : List Int} {w w' : World} (h : Ly base D n xs w) (hb : Below w.heap.size w w') : Ly base D n xs w' := by
  obtain ⟨⟨l, h1, h2⟩, h3, h4⟩ := h
  exact ⟨⟨l, keep hb h1, own_bel h2 hb⟩, h3, Nat.le_trans h4 hb.size⟩
theorem row_apart {base n D : Nat} {w : World} {l u : Value} {vals : List Value} (hown : w.ownsRow base 2 1 l n vals) (hD : w.heap[D]? = some (.cells #[u] 53 (0, 0))) : ∀ q, l.ownBlock = some q → q ≠ D := fun q hq e => by
  subst e
  rcases hown.2 with ⟨rfl, _⟩ | ⟨g, c, cur, rfl, _, hg, _⟩
  · cases hq
  · have e : g = q := Option.some.inj hq
    subst e
    rw [hD] at hg
    injection hg with hg'
    injection hg' with _ q2
    exact absurd q2 (by decide)
set_option linter.unusedVariables false
section
variable {a : Act} {w : World} {K : Act → World → Prop} {Q : Exit → Act → World → Prop} {o : Oper}
theorem op_ldA {s b f : Nat} {t : TypeId} {cs : Array Value} (hop : o.op = Op.load t (Operand.tmp s)) (he : a.tmps[s]?.getD undef = .pointer (some ⟨b, f, none⟩)) (ha : (isAgg t).run Tryz.prog w = .ok true w) (hz : (sizeOf t).run Tryz.prog w = .ok cs.size w)
    (hc : ∀ j v, cs[j]? = some v → w.cell? ⟨b, f + j, none⟩ = some v) (hk : K (a.put o.dst (.agg cs)) w) : o.wp Tryz.prog a w K Q := by
  have h := op_ldN (o := o) (a := a) (w := w) (K := K) (Q := Q) (cs := cs.toList) hop he ha (by simpa using hz) (fun j v hv => hc j v (by simpa using hv))
  simp only [Array.toArray_toList] at h
  exact h hk
end
theorem cell_of {w : World} {D : Nat} {cs : Array Value} {t : TypeId} (h : w.heap[D]? = some (.cells cs t (0, 0))) : ∀ j v, cs[j]? = some v → w.cell? ⟨D, 0 + j, none⟩ = some v := fun j v hv => by
  rw [Nat.zero_add]
  simp [World.cell?, h, hv]
set_option linter.unusedVariables false
theorem enters_eright2 : ∀ (args : Array Value) (a : World), Sem.run Tryz.prog (callFunc 20 args) a = Result.ok (Next.enter 20 args) a := by
  intro args a; simp [callFunc, Tryz.func20, go_sem]; rfl
set_option maxRecDepth 40000 in
set_option maxHeartbeats 4000000 in
theorem wo1_seq {Q : Exit → Act → World → Prop} {w : World} {D : Nat} {cs : Array Value} {B : Bool} {u0 u2 u3 u4 u5 u6 u7 u8 u9 u10 u11 u12 u13 u14 u15 u16 u17 u18 u19 u20 u21 u22 u23 u24 u25 u26 u27 u28 u29 u30 u31 u32 u33 u34 u35 u36 u37 u38 u39 u40 u41 u42 u43 u44 u45 u46 u47 u48 u49 u50 u51 u52 u53 u54 u55 u56 u57 u58 u59 u60 u61 u62 u63 u64 u65 u66 : Value} (hl : ∀ j v, cs[j]? = some v → w.cell? ⟨D, 0 + j, none⟩ = some v) (hz : cs.size = 29)
    (hR : Calls Tryz.prog 20 #[.agg cs] w fun e b => e = .returned (.bool B) ∧ Below w.heap.size w b)
    (hQ : ∀ b, Below w.heap.size w b → Q .normal ⟨#[u0, .pointer (some ⟨D, 0, none⟩), u2, u3, u4, u5, u6, u7, .agg cs, .bool B, .bool (!B), u11, u12, u13, u14, u15, u16, u17, u18, u19, u20, u21, u22, u23, u24, u25, u26, u27, u28, u29, u30, u31, u32, u33, u34, u35, u36, u37, u38, u39, u40, u41, u42, u43, u44, u45, u46, u47, u48, u49, u50, u51, u52, u53, u54, u55, u56, u57, u58, u59, u60, u61, u62, u63, u64, u65, u66], []⟩ b) : (Code.region 1 #[
 ⟨some 8, .load 35 (.tmp 1), 35, "est.go:75", #[], none⟩,
 ⟨some 9, .call ⟨.value (.func 20), #[.tmp 8], #[35]⟩, 4, "est.go:75", #[eD 0], none⟩,
 ⟨some 10, .unOp .not 4 (.tmp 9), 4, "est.go:75", #[eD 1], none⟩] false).wp Tryz.prog Q ⟨#[u0, .pointer (some ⟨D, 0, none⟩), u2, u3, u4, u5, u6, u7, u8, u9, u10, u11, u12, u13, u14, u15, u16, u17, u18, u19, u20, u21, u22, u23, u24, u25, u26, u27, u28, u29, u30, u31, u32, u33, u34, u35, u36, u37, u38, u39, u40, u41, u42, u43, u44, u45, u46, u47, u48, u49, u50, u51, u52, u53, u54, u55, u56, u57, u58, u59, u60, u61, u62, u63, u64, u65, u66], []⟩ w := by
  refine wp_region_list ?_
  refine wpList_plain rfl fun _ hK => op_ldA (cs := cs) rfl rfl (ag_Est _) (by rw [hz]; exact sz_Est _) hl (hK _ _ ?_)
  change wpList Tryz.prog _ _ _ ⟨#[u0, .pointer (some ⟨D, 0, none⟩), u2, u3, u4, u5, u6, u7, .agg cs, u9, u10, u11, u12, u13, u14, u15, u16, u17, u18, u19, u20, u21, u22, u23, u24, u25, u26, u27, u28, u29, u30, u31, u32, u33, u34, u35, u36, u37, u38, u39, u40, u41, u42, u43, u44, u45, u46, u47, u48, u49, u50, u51, u52, u53, u54, u55, u56, u57, u58, u59, u60, u61, u62, u63, u64, u65, u66], []⟩ _
  refine wpList_plain rfl fun _ hK => op_call_t enters_eright2 rfl rfl hR ?_
  rintro e b ⟨rfl, b1⟩
  refine ⟨_, rfl, hK _ _ ?_⟩
  change wpList Tryz.prog _ _ _ ⟨#[u0, .pointer (some ⟨D, 0, none⟩), u2, u3, u4, u5, u6, u7, .agg cs, .bool B, u10, u11, u12, u13, u14, u15, u16, u17, u18, u19, u20, u21, u22, u23, u24, u25, u26, u27, u28, u29, u30, u31, u32, u33, u34, u35, u36, u37, u38, u39, u40, u41, u42, u43, u44, u45, u46, u47, u48, u49, u50, u51, u52, u53, u54, u55, u56, u57, u58, u59, u60, u61, u62, u63, u64, u65, u66], []⟩ _
  refine wpList_plain rfl fun _ hK => op_notB' rfl rfl (hK _ _ ?_)
  exact hQ b b1
set_option maxRecDepth 40000 in
set_option maxHeartbeats 4000000 in
theorem wo6_seq {Q : Exit → Act → World → Prop} {w : World} {D : Nat} {cs : Array Value} {u0 u2 u3 u4 u5 u6 u7 u8 u9 u10 u11 u12 u13 u14 u15 u16 u17 u18 u19 u20 u21 u22 u23 u24 u25 u26 u27 u28 u29 u30 u31 u32 u33 u34 u35 u36 u37 u38 u39 u40 u41 u42 u43 u44 u45 u46 u47 u48 u49 u50 u51 u52 u53 u54 u55 u56 u57 u58 u59 u60 u61 u62 u63 u64 u65 u66 : Value} (hl : ∀ j v, cs[j]? = some v → w.cell? ⟨D, 4 + j, none⟩ = some v) (hz : cs.size = 18)
    (hQ : Q .normal ⟨#[u0, .pointer (some ⟨D, 0, none⟩), u2, u3, u4, u5, u6, u7, u8, u9, u10, u11, u12, u13, u14, u15, u16, u17, .pointer (some ⟨D, 4, none⟩), .agg cs, .int .i64 0, u21, u22, u23, u24, u25, u26, u27, u28, u29, u30, u31, u32, u33, u34, u35, u36, u37, u38, u39, u40, u41, u42, u43, u44, u45, u46, u47, u48, u49, u50, u51, u52, u53, u54, u55, u56, u57, u58, u59, u60, u61, u62, u63, u64, u65, u66], []⟩ w) : (Code.region 6 #[
 ⟨some 18, .fieldAddr 35 (.tmp 1) 1, 0, "est.go:81", #[], none⟩,
 ⟨some 19, .load 32 (.tmp 18), 32, "est.go:81", #[eD 0], none⟩,
 ⟨some 20, .move (.const (.int .i64 0)), 3, "est.go:81", #[], none⟩] false).wp Tryz.prog Q ⟨#[u0, .pointer (some ⟨D, 0, none⟩), u2, u3, u4, u5, u6, u7, u8, u9, u10, u11, u12, u13, u14, u15, u16, u17, u18, u19, u20, u21, u22, u23, u24, u25, u26, u27, u28, u29, u30, u31, u32, u33, u34, u35, u36, u37, u38, u39, u40, u41, u42, u43, u44, u45, u46, u47, u48, u49, u50, u51, u52, u53, u54, u55, u56, u57, u58, u59, u60, u61, u62, u63, u64, u65, u66], []⟩ w := by
  refine wp_region_list ?_
  refine wpList_plain rfl fun _ hK => op_fEst1 rfl rfl (hK _ _ ?_)
  change wpList Tryz.prog _ _ _ ⟨#[u0, .pointer (some ⟨D, 0, none⟩), u2, u3, u4, u5, u6, u7, u8, u9, u10, u11, u12, u13, u14, u15, u16, u17, .pointer (some ⟨D, 4, none⟩), u19, u20, u21, u22, u23, u24, u25, u26, u27, u28, u29, u30, u31, u32, u33, u34, u35, u36, u37, u38, u39, u40, u41, u42, u43, u44, u45, u46, u47, u48, u49, u50, u51, u52, u53, u54, u55, u56, u57, u58, u59, u60, u61, u62, u63, u64, u65, u66], []⟩ _
  refine wpList_plain rfl fun _ hK => op_ldA (cs := cs) rfl rfl (ag_Axes _) (by rw [hz]; exact sz_Axes _) hl (hK _ _ ?_)
  change wpList Tryz.prog _ _ _ ⟨#[u0, .pointer (some ⟨D, 0, none⟩), u2, u3, u4, u5, u6, u7, u8, u9, u10, u11, u12, u13, u14, u15, u16, u17, .pointer (some ⟨D, 4, none⟩), .agg cs, u20, u21, u22, u23, u24, u25, u26, u27, u28, u29, u30, u31, u32, u33, u34, u35, u36, u37, u38, u39, u40, u41, u42, u43, u44, u45, u46, u47, u48, u49, u50, u51, u52, u53, u54, u55, u56, u57, u58, u59, u60, u61, u62, u63, u64, u65, u66], []⟩ _
  refine wpList_plain rfl fun _ hK => op_moveC rfl (hK _ _ ?_)
  exact hQ
end Go.Proofs.YtoefekkdjcflmaaGreatDoor.Et

