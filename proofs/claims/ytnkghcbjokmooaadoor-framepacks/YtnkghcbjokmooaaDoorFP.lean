/-
  A sample as words: the code's Pack.
-/
import Derived.Test.YtnkghcbjokmooaaDoorFA
namespace Go.Proofs.YtnkghcbjokmooaaDoor.Gr
open Go.RowKit Go.Sort Qm
set_option linter.unusedVariables false

/-- a sample, plain: three flags, ten numbers -/
structure Sp where
  m : Bool
  hb : Bool
  hg : Bool
  q : Nat → Int
def smL (s : Sp) : List Value := [.bool s.m, vw (s.q 0), vw (s.q 1), vw (s.q 2), vw (s.q 3), vw (s.q 4), vw (s.q 5), .bool s.hb, vw (s.q 6), .bool s.hg, vw (s.q 7), vw (s.q 8), vw (s.q 9)]
def smV (s : Sp) : Array Value := (smL s).toArray
def b2i (b : Bool) : Int := if b then 1 else 0
def packS (s : Sp) : List Int := [b2i s.m, s.q 0, s.q 1, s.q 2, s.q 3, s.q 4, s.q 5, b2i s.hb, s.q 6, b2i s.hg, s.q 7, s.q 8, s.q 9]
/-- words that are being laid: the box holds an own row of them -/
def PS (base B : Nat) (vals : List Int) (w0 w : World) : Prop := (∃ v, Boxed w B 22 v ∧ w.ownsRow base 2 1 v vals.length (vals.map vw)) ∧ base ≤ B ∧ base ≤ w.heap.size ∧ Below base w0 w
theorem PS.alloc {base B : Nat} {vals : List Int} {w0 w : World} (h : PS base B vals w0 w) (o : Obj) : PS base B vals w0 (w.alloc o) := by
  obtain ⟨⟨v, hv, hr⟩, h1, h2, h3⟩ := h
  exact ⟨⟨v, hv.alloc o, hr.alloc o⟩, h1, le_alloc h2 o, h3.alloc h2 o⟩
set_option maxRecDepth 20000 in
set_option maxHeartbeats 1000000 in
theorem flag_any (y : Bool) (base B : Nat) (vals : List Int) (w0 w : World) (h : PS base B vals w0 w) (hl : vals.length ≤ 1000) :
    Calls Tryd.prog 36 #[.bool y, .pointer (some ⟨B, 0, none⟩)] w fun e w' => (∃ r, e = .returned r) ∧ PS base B (vals ++ [b2i y]) w0 w' := by
  obtain ⟨⟨v, hv, hr⟩, h1, h2, h3⟩ := h
  have q1 := hv.cell
  have q2 := fun o => (hv.alloc o).cell
  cases y
  · go_enter Tryd.func36, Tryd.ntmps36
    go_wp2_with (at_builtin; refine app64 rfl _ _ rfl base v vals.length _ rfl (hr.alloc _) (le_alloc h2 _) _ [0] rfl (one64' _ _ _ rfl) (by simp; omega) ?_; intro v5 w5 ho5 hg5; obtain ⟨g5, c5, rfl⟩ := ownsRow_succ ho5; obtain ⟨z1, z2, z3, z4, z5⟩ := hv.appended (by decide) hr h2 h1 ho5 hg5; have y1 := z1.cell; have y2 := z1.frozen)
    go_end0
    exact ⟨⟨_, rfl⟩, ⟨_, z2, by rw [List.length_append, List.map_append]; exact z3⟩, h1, Nat.le_trans h2 z5.size, h3.trans z5⟩
  · go_enter Tryd.func36, Tryd.ntmps36
    go_wp2_with (at_builtin; refine app64 rfl _ _ rfl base v vals.length _ rfl (hr.alloc _) (le_alloc h2 _) _ [1] rfl (one64' _ _ _ rfl) (by simp; omega) ?_; intro v5 w5 ho5 hg5; obtain ⟨g5, c5, rfl⟩ := ownsRow_succ ho5; obtain ⟨z1, z2, z3, z4, z5⟩ := hv.appended (by decide) hr h2 h1 ho5 hg5; have y1 := z1.cell; have y2 := z1.frozen)
    go_end0
    exact ⟨⟨_, rfl⟩, ⟨_, z2, by rw [List.length_append, List.map_append]; exact z3⟩, h1, Nat.le_trans h2 z5.size, h3.trans z5⟩
set_option maxRecDepth 20000 in
set_option maxHeartbeats 1000000 in
theorem lays_any (ad : Addr) (n cap : Nat) (qs : List Int) (hn : qs.length = n) (base B : Nat) (vals : List Int) (w0 w : World) (h : PS base B vals w0 w) (hl : vals.length + n ≤ 1000)
    (hrd : ∀ (k : Nat) (u : World), k < n → Below base w u → (k = 0 → u = w) → u.cell? (ad.add k) = some (vw (qs.getD k 0))) :
    Calls Tryd.prog 37 #[.slice (some ad) n cap, .pointer (some ⟨B, 0, none⟩)] w fun e w' => (∃ r, e = .returned r) ∧ PS base B (vals ++ qs) w0 w' := by
  have h0 : PS base B (vals ++ qs.take 0) w0 w := by simpa using h
  have HN : Hid (qs.length = n) := hn
  have HR : Hid (∀ (k : Nat) (u : World), k < n → Below base w u → (k = 0 → u = w) → u.cell? (ad.add k) = some (vw (qs.getD k 0))) := hrd
  clear h hn hrd
  go_enter Tryd.func37, Tryd.ntmps37
  go_wp2
  go_loopw [7] (fun i wr => ∃ k : Nat, k ≤ n ∧ i = .int .i64 k ∧ PS base B (vals ++ qs.take k) w0 wr ∧ Below base w wr ∧ (k = 0 → wr = w)) (fun i _ => n - (intOf i).toNat)
  case atStart => exact ⟨0, by omega, rfl, h0, Below.refl _ _, fun _ => rfl⟩
  case round =>
    clear h0
    obtain ⟨k, hk, rfl, hps, hbl, hk0⟩ := hrel
    by_cases hlt : k < n
    · have ca := HR.out k wr hlt hbl hk0
      have HX : Hid (vals ++ qs.take (k + 1) = vals ++ qs.take k ++ [qs.getD k 0]) := by
        unfold Hid
        rw [List.take_add_one, List.getD_eq_getElem?_getD, List.getElem?_eq_getElem (by rw [HN.out]; exact hlt), List.append_assoc]; rfl
      have hlen : (vals ++ qs.take k).length ≤ 1000 := by rw [List.length_append, List.length_take, HN.out]; omega
      generalize qs.getD k 0 = x at ca HX
      generalize vals ++ qs.take k = vs at hps HX hlen
      unfold vw at ca
      obtain ⟨⟨v, hv, hr⟩, h1, h2, h3⟩ := hps
      have q1 := hv.cell
      have q2 := fun o => (hv.alloc o).cell
      clear hk0
      go_wp2_with (at_builtin; refine app64 rfl _ _ rfl base v vs.length _ rfl (hr.alloc _) (le_alloc h2 _) _ [x] rfl (one64' _ _ _ rfl) (by simp; omega) ?_; intro v5 w5 ho5 hg5; obtain ⟨g5, c5, rfl⟩ := ownsRow_succ ho5; obtain ⟨z1, z2, z3, z4, z5⟩ := hv.appended (by decide) hr h2 h1 ho5 hg5; have y1 := z1.cell; have y2 := z1.frozen)
      go_roundw
      case rel => exact ⟨k + 1, by omega, by go_num, ⟨⟨_, z2, by rw [HX.out, List.length_append, List.map_append]; exact z3⟩, h1, Nat.le_trans h2 z5.size, h3.trans z5⟩, hbl.trans z5, fun e => by omega⟩
      case measure => simp [intOf]; omega
    · obtain rfl : k = n := by omega
      rw [← HN.out, List.take_length] at hps
      clear hk0
      go_wp2
      go_end0
      exact ⟨⟨_, rfl⟩, hps⟩
/-- the cells of a sample that lies in a block -/
theorem sm_cells {s : Sp} {p base : Nat} {w0 u : World} (h : w0.heap[p]? = some (.cells (smV s) 45 (0, 0))) (hp : p < base) (hb : Below base w0 u) : ∀ (j : Nat) (v : Value), (smL s)[j]? = some v → u.cell? ⟨p, j, none⟩ = some v := by
  intro j v hj
  rw [hb.cell (p := ⟨p, j, none⟩) hp]
  simp [World.cell?, h, smV]
  exact hj
theorem sm_part {s : Sp} {p base : Nat} {w0 w : World} (h : w0.heap[p]? = some (.cells (smV s) 45 (0, 0))) (hp : p < base) (hbw : Below base w0 w) (o : Nat) (qs : List Int) (hq : ∀ k, k < qs.length → (smL s)[o + k]? = some (vw (qs.getD k 0))) :
    ∀ (k : Nat) (u : World), k < qs.length → Below base w u → (k = 0 → u = w) → u.cell? ((⟨p, o, none⟩ : Addr).add k) = some (vw (qs.getD k 0)) := by
  intro k u hk hb _
  have := sm_cells h hp (hbw.trans hb) (o + k) _ (hq k hk)
  have ha : (⟨p, o, none⟩ : Addr).add k = ⟨p, o + k, none⟩ := by unfold Addr.add; split <;> simp_all
  rw [ha]
  exact this
/-- 'make' of an empty row of words -/
theorem make640 {ops : Array Oper} {rest : List Oper} {o : Oper} {a : Act} {Q : Exit → Act → World → Prop} {w : World} (hg : o.guard = none) (l c : Operand) (hop : o.op = Op.makeSlice 22 l c) (n : Nat)
    (hl : a.eval l = .int .i64 0) (hc : a.eval c = .int .i64 n) (hn : n ≤ 100000)
    (hK : ∀ w', w'.ownsRow w.heap.size 2 1 (.slice (some ⟨w.heap.size, 0, none⟩) 0 n) 0 [] → Below w.heap.size w w' → wpList Tryd.prog ops Q rest (a.put o.dst (.slice (some ⟨w.heap.size, 0, none⟩) 0 n)) w') :
    wpList Tryd.prog ops Q (o :: rest) a w := by
  obtain ⟨i0, hi, hz0, hz1, hz2⟩ := info_parts info2
  exact wpList_make_own w hg l c 22 hop w.heap.size 2 i0 (.int .i64 0) 1 under22 hi hz0 hz1 .i64 .i64 n n hl hc rfl (by rw [hz2]; omega) (by unfold maxLen; omega) (Nat.le_refl _) fun w' h1 h2 => hK w' h1 (gb_none h2)
theorem hq3 (s : Sp) : (∀ k, k < [s.q 0, s.q 1, s.q 2].length → (smL s)[1 + k]? = some (vw ([s.q 0, s.q 1, s.q 2].getD k 0))) ∧ (∀ k, k < [s.q 3, s.q 4, s.q 5].length → (smL s)[4 + k]? = some (vw ([s.q 3, s.q 4, s.q 5].getD k 0))) ∧ (∀ k, k < [s.q 7, s.q 8, s.q 9].length → (smL s)[10 + k]? = some (vw ([s.q 7, s.q 8, s.q 9].getD k 0))) := by
  refine ⟨?_, ?_, ?_⟩ <;> (intro k hk; simp at hk; rcases (by omega : k = 0 ∨ k = 1 ∨ k = 2) with rfl | rfl | rfl <;> rfl)
set_option maxRecDepth 20000 in
set_option maxHeartbeats 2000000 in
theorem pack_any (s : Sp) (w : World) :
    Calls Tryd.prog 25 #[.agg (smV s)] w fun e b => ∃ g G, e = .returned (.slice (some ⟨g, 0, none⟩) 13 G) ∧ SeesI b (.slice (some ⟨g, 0, none⟩) 13 G) (packS s) ∧ Below w.heap.size w b := by
  have hx := heap_new w (.cells (smV s) 45)
  have b0 := box_below w (.cells (smV s) 45)
  obtain ⟨W, hW⟩ : ∃ W, w.alloc (.cells (smV s) 45) = W := ⟨_, rfl⟩
  obtain ⟨p, hp⟩ : ∃ p, w.heap.size = p := ⟨_, rfl⟩
  rw [hW] at hx b0
  rw [hp] at hx
  have hpl := lt_of_block hx
  have HC : Hid (∀ u, Below W.heap.size W u → ∀ (j : Nat) (v : Value), (smL s)[j]? = some v → u.cell? ⟨p, j, none⟩ = some v) := fun u hu => sm_cells hx hpl hu
  have HP := fun (w1 : World) (h : Below W.heap.size W w1) (o : Nat) (qs : List Int) hq => sm_part (w := w1) hx hpl h o qs hq
  obtain ⟨q3a, q3b, q3c⟩ := hq3 s
  have HQ : Hid (packS s = [b2i s.m, s.q 0, s.q 1, s.q 2, s.q 3, s.q 4, s.q 5, b2i s.hb, s.q 6, b2i s.hg, s.q 7, s.q 8, s.q 9]) := rfl
  have f0 := fun (u : World) (h : Below W.heap.size W u) => HC.out u h 0 (.bool s.m) rfl
  have f7 := fun (u : World) (h : Below W.heap.size W u) => HC.out u h 7 (.bool s.hb) rfl
  have f8 := fun (u : World) (h : Below W.heap.size W u) => HC.out u h 8 (vw (s.q 6)) rfl
  have f9 := fun (u : World) (h : Below W.heap.size W u) => HC.out u h 9 (.bool s.hg) rfl
  clear hx
  generalize smV s = V at hW
  go_enter Tryd.func25, Tryd.ntmps25
  go_wp2_with (first
    | (refine make640 rfl _ _ rfl 13 rfl rfl (by omega) ?_; intro w2 ho2 b2; have ps0 : PS W.heap.size w2.heap.size [] W (w2.alloc (.cells #[.slice (some ⟨W.heap.size, 0, none⟩) 0 13] 22)) := ⟨⟨_, Boxed.new _ _ _, ho2.alloc _⟩, b2.size, le_alloc b2.size _, b2.alloc b2.size _⟩; have c0 := f0 _ ps0.2.2.2)
    | (have _ := ps6; go_at_call 37; refine (lays_any ⟨p, 10, none⟩ 3 _ [s.q 7, s.q 8, s.q 9] rfl W.heap.size w2.heap.size _ W _ ps6 (by simp) (HP _ ps6.2.2.2 10 _ q3c)).mono ?_; rintro e u7 ⟨⟨r, rfl⟩, ps7⟩; obtain ⟨⟨v7, hv7, hr7⟩, _, _, B7⟩ := id ps7; have q7 := hv7.cell)
    | (have _ := ps5; go_at_call 36; refine (flag_any _ W.heap.size w2.heap.size _ W _ ps5 (by simp)).mono ?_; rintro e u6 ⟨⟨r, rfl⟩, ps6⟩)
    | (have _ := ps4; go_at_call 37; refine (lays_any ⟨u4.heap.size, 0, none⟩ 1 _ [s.q 6] rfl W.heap.size w2.heap.size _ W _ (ps4.alloc _) (by simp) (fun k u hk _ h0 => by obtain rfl : k = 0 := (by omega); rw [h0 rfl]; exact (cell_of_one (heap_new _ _)))).mono ?_; rintro e u5 ⟨⟨r, rfl⟩, ps5⟩; have c9 := f9 _ ps5.2.2.2)
    | (have _ := ps3; go_at_call 36; refine (flag_any _ W.heap.size w2.heap.size _ W _ ps3 (by simp)).mono ?_; rintro e u4 ⟨⟨r, rfl⟩, ps4⟩; have c8 := f8 _ ps4.2.2.2)
    | (have _ := ps2; go_at_call 37; refine (lays_any ⟨p, 4, none⟩ 3 _ [s.q 3, s.q 4, s.q 5] rfl W.heap.size w2.heap.size _ W _ ps2 (by simp) (HP _ ps2.2.2.2 4 _ q3b)).mono ?_; rintro e u3 ⟨⟨r, rfl⟩, ps3⟩; have c7 := f7 _ ps3.2.2.2)
    | (have _ := ps1; go_at_call 37; refine (lays_any ⟨p, 1, none⟩ 3 _ [s.q 0, s.q 1, s.q 2] rfl W.heap.size w2.heap.size _ W _ ps1 (by simp) (HP _ ps1.2.2.2 1 _ q3a)).mono ?_; rintro e u2 ⟨⟨r, rfl⟩, ps2⟩)
    | (have _ := ps0; go_at_call 36; refine (flag_any _ W.heap.size w2.heap.size _ W _ ps0 (by simp)).mono ?_; rintro e u1 ⟨⟨r, rfl⟩, ps1⟩))
  have hr7' : u7.ownsRow W.heap.size 2 1 v7 (12 + 1) ((packS s).map vw) := hr7
  obtain ⟨g7, c7, rfl⟩ := ownsRow_succ hr7'
  go_ret
  exact ⟨g7, c7, rfl, Row.own hr7', bt b0 B7⟩
end Go.Proofs.YtnkghcbjokmooaaDoor.Gr
