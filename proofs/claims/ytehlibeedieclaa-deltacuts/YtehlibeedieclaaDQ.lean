/-
  The code's Parts.
-/
import Derived.Test.YtehlibeedieclaaDP
namespace Go.Proofs.Ytehlibeedieclaa.Gr
open Go.RowKit Go.Sort Dm
set_option linter.unusedVariables false

namespace Dm
/-- a row's words and noughts behind, as the parts lie, i of Q laid -/
def partS (l : List Int) (Q i : Nat) : List Int := l.take (8 * i) ++ List.replicate (8 * Q - min (8 * i) l.length) 0
/-- a row's words and noughts behind -/
def padS (l : List Int) : List Int := partS l ((l.length + 7) / 8) ((l.length + 7) / 8)
theorem partS_len (l : List Int) {Q i : Nat} (hi : i ≤ Q) : (partS l Q i).length = 8 * Q := by unfold partS; simp; omega
theorem padS_len (l : List Int) : (padS l).length = 8 * ((l.length + 7) / 8) := partS_len _ (Nat.le_refl _)
theorem partS_zero (l : List Int) (Q : Nat) : partS l Q 0 = List.replicate (8 * Q) 0 := by unfold partS; simp
theorem partS_next (l : List Int) {Q i : Nat} (hi : i < Q) (hl : 8 * i < l.length) : splice (partS l Q i) (8 * i) ((l.drop (8 * i)).take 8) = partS l Q (i + 1) := by
  have h1 : (l.take (8 * i)).length = 8 * i := by simp; omega
  have h2 : ((l.drop (8 * i)).take 8).length = min 8 (l.length - 8 * i) := by simp
  have h3 : l.take (8 * (i + 1)) = l.take (8 * i) ++ (l.drop (8 * i)).take 8 := by rw [show 8 * (i + 1) = 8 * i + 8 by omega, List.take_add]
  unfold splice partS
  rw [h3]
  generalize (l.drop (8 * i)).take 8 = V at h2 ⊢
  generalize l.take (8 * i) = A at h1 ⊢
  rw [h2, List.take_left' h1, List.drop_append, List.drop_of_length_le (by omega), h1, List.nil_append, List.drop_replicate, List.append_assoc]
  congr 3
  omega
theorem splice_map {α β : Type} (f : α → β) (A vs : List α) (off : Nat) : splice (A.map f) off (vs.map f) = (splice A off vs).map f := by simp [splice]
theorem padS_eq (l : List Int) : padS l = l ++ List.replicate (8 * ((l.length + 7) / 8) - l.length) 0 := by
  unfold padS partS
  rw [List.take_of_length_le (by omega)]
  congr 2
  omega
end Dm
theorem under31 : Try.prog.underlying 31 = some (.slice 35) := by kernel_rfl
theorem under35 : Try.prog.underlying 35 = some (.array 8 2) := by kernel_rfl
theorem info35 : (Try.prog.info? 35).map (fun i => (i.zero, i.size, i.bytes)) = some (some (.agg (Array.replicate 8 (.int .i64 0))), 8, 64) := by kernel_rfl
theorem zero_cells (n : Nat) : (madeCells (Value.agg (Array.replicate 8 (.int .i64 0))).cells (n * 8)).toList = (List.replicate (8 * n) 0).map vw := by
  apply List.ext_getElem
  · simp [madeCells]; omega
  · intro i h1 h2
    have hm : i % 8 < 8 := by omega
    rcases (by omega : i % 8 = 0 ∨ i % 8 = 1 ∨ i % 8 = 2 ∨ i % 8 = 3 ∨ i % 8 = 4 ∨ i % 8 = 5 ∨ i % 8 = 6 ∨ i % 8 = 7) with h | h | h | h | h | h | h | h <;> simp [madeCells, Value.cells, h]
/-- 'make' of a row of parts -/
theorem make35 {ops : Array Oper} {rest : List Oper} {o : Oper} {a : Act} {Q : Exit → Act → World → Prop} {w : World} (hg : o.guard = none) (l c : Operand) (hop : o.op = Op.makeSlice 31 l c) (n : Nat)
    (hl : a.eval l = .int .i64 n) (hc : a.eval c = .int .i64 n) (hn : n ≤ 100000)
    (hK : ∀ w', w'.ownsRow w.heap.size 35 8 (.slice (some ⟨w.heap.size, 0, none⟩) n n) n ((List.replicate (8 * n) 0).map vw) → Below w.heap.size w w' → wpList Try.prog ops Q rest (a.put o.dst (.slice (some ⟨w.heap.size, 0, none⟩) n n)) w') :
    wpList Try.prog ops Q (o :: rest) a w := by
  obtain ⟨i0, hi, hz0, hz1, hz2⟩ := info_parts info35
  refine wpList_make_full _ hg l c 31 hop w.heap.size 35 i0 _ 8 under31 hi hz0 hz1 .i64 .i64 n n n hl hc rfl rfl (by rw [hz2]; omega) (by unfold maxLen; omega) (Nat.le_refl _) fun w' h1 h2 => hK w' ?_ (gb_none h2)
  rw [← zero_cells]; exact h1

set_option maxRecDepth 20000 in
set_option maxHeartbeats 2000000 in
theorem parts_any (va : Value) (l : List Int) (w : World) (hN : l.length ≤ 100000) (sa : SeesI w va l) :
    Calls Try.prog 15 #[va] w fun e w' => ∃ v', e = .returned v' ∧ w'.ownsRow w.heap.size 35 8 v' ((l.length + 7) / 8) ((padS l).map vw) ∧ Below w.heap.size w w' := by
  obtain ⟨ao, cap, rfl⟩ := sa.slice
  have hcap := sa.le.1
  have cM := fun (u : World) => many_any l.length (by omega) (by omega) u
  rw [piS_8] at cM
  have hp : padS l = partS l ((l.length + 7) / 8) ((l.length + 7) / 8) := rfl
  rw [hp]
  have hp0 := partS_zero l ((l.length + 7) / 8)
  clear hp
  obtain ⟨N, hn⟩ : ∃ N, l.length = N := ⟨_, rfl⟩
  have HN : Hid (l.length = N) := hn
  rw [hn] at hN hcap cM hp0 sa ⊢
  have hQ8 : ∀ i, i < (N + 7) / 8 → 8 * i < N := fun i hi => by omega
  have hQb : (N + 7) / 8 ≤ 20000 := by omega
  clear hn
  generalize (N + 7) / 8 = Q at *
  obtain ⟨fz, hfz⟩ : ∃ fz, w.heap.size = fz := ⟨_, rfl⟩
  have HF : Hid (w.heap.size = fz) := hfz
  go_enter Try.func15, Try.ntmps15
  go_wp2_with (first
    | (go_at_call 17; go_must (refine (cM _).mono ?_); rintro e w1 ⟨rfl, b1⟩)
    | (at_make; refine make35 rfl _ _ rfl Q rfl rfl (by omega) ?_; intro w2 ho2 b2))
  have hb2 : Below fz w w2 := by rw [← hfz]; exact bt b1 b2
  rw [← hp0] at ho2
  have hgf : fz ≤ w1.heap.size := by rw [← hfz]; exact b1.size
  have ho3 := own_mono ho2 hgf
  generalize w1.heap.size = g at *
  clear ho2 b1 b2 cM hp0
  go_loopw [13] (fun i wr => ∃ k : Nat, k ≤ Q ∧ i = .int .i64 k ∧ wr.ownsRow fz 35 8 (.slice (some ⟨g, 0, none⟩) Q Q) Q ((partS l Q k).map vw) ∧ Below fz w wr) (fun i _ => Q - (intOf i).toNat)
  case atStart => exact ⟨0, Nat.zero_le _, rfl, ho3, hb2⟩
  case round =>
    clear ho3 hb2
    obtain ⟨k, hk, rfl, hown, hbl⟩ := hrel
    have hfw : fz ≤ wr.heap.size := by have := hbl.size; omega
    by_cases hlt : k < Q
    · have h8 := hQ8 k hlt
      have hnx := partS_next l hlt (by rw [HN.out]; exact h8)
      have hF : (k : Int) * 8 = ((8 * k : Nat) : Int) := by omega
      have hpl := partS_len l (Nat.le_of_lt hlt)
      obtain ⟨V, hV⟩ : ∃ V, (l.drop (8 * k)).take 8 = V := ⟨_, rfl⟩
      have hVl : V.length = min 8 (N - 8 * k) := by rw [← hV]; simp [HN.out]
      rw [hV] at hnx
      obtain ⟨T, hT⟩ : ∃ T, min (8 * k + 8) N = T := ⟨_, rfl⟩
      have hVT : V.length = T - 8 * k := by omega
      obtain ⟨F, hF8⟩ : ∃ F, 8 * k = F := ⟨_, rfl⟩
      rw [hF8] at hF h8 hnx hVl hVT hT hV
      have HX : Hid (splice (partS l Q k) F V = partS l Q (k + 1) ∧ (partS l Q k).length = 8 * Q ∧ F + V.length ≤ 8 * Q) := ⟨hnx, hpl, by omega⟩
      have sV : SeesI wr.drew (.slice (if T = F then ao else ao.map (·.add F)) (T - F) (T - F)) V := by
        have h := ((sa.below (hfz ▸ hbl)).drew).seg (lo := F) (hi := T) (by omega) (by rw [HN.out]; omega)
        have e : (l.drop F).take (T - F) = V := by
          rw [← hV, ← List.take_of_length_le (l := (l.drop F).take 8) (i := T - F) (by rw [hV]; omega), List.take_take, Nat.min_eq_left (by omega)]
        rw [e] at h; exact h
      clear hpl hnx
      have hF0 : (0 : Int) ≤ (F : Int) := by omega
      have w1' : wrap64 (F : Int) = F := by unfold wrap64; omega
      have hkQ : (k : Int) < (Q : Int) := by omega
      have hk0 : (0 : Int) ≤ (k : Int) := by omega
      have hTc : (T : Int) ≤ (cap : Int) := by omega
      have hFT : (F : Int) ≤ (T : Int) := by omega
      have hk8 : k * 8 = F := by omega
      have hVm : V.length = Nat.min (T - F) 8 := by show _ = min _ _; omega
      have hbd : Below fz w wr.drew := hbl.drew
      by_cases h9 : F + 8 ≤ N
      · have e1 : (F : Int) + 8 = (T : Int) := by omega
        have w2' : wrap64 (T : Int) = (T : Int) := by unfold wrap64; omega
        have h9' : (T : Int) ≤ (N : Int) := by omega
        clear hVT hVl hT h9
        go_wp2
        go_still_tail 9, (by kernel_rfl)
        change wpList Try.prog _ _ _ _ wr.drew
        generalize (if T = F then ao else Option.map (fun x => x.add F) ao) = qo at sV ⊢
        refine wpList_copyO rfl _ _ _ _ rfl 2 under22 (by kernel_rfl) _ _ _ _ _ _ rfl rfl hown.drew F (V.map vw) (by rw [List.length_map]; exact hVm) (fun hp => ⟨rfl, sees_src sV hp⟩) (by rw [List.length_map]; have := HX.out.2.2; omega) (ws_one V) ?_
        intro w5 ho5 g5
        rw [splice_map, HX.out.1] at ho5
        have hb5 : Below fz w w5 := hbl.drew.grown g5 hfw (fun m e => by cases e; exact hgf)
        go_wp2
        go_roundw
        case rel => exact ⟨k + 1, by omega, by go_num, ho5, hb5⟩
        case measure => simp [intOf]; omega
      · have w2' : wrap64 ((F : Int) + 8) = (F : Int) + 8 := by unfold wrap64; omega
        have h9' : ¬ (F : Int) + 8 ≤ (N : Int) := by omega
        obtain rfl : T = N := by omega
        clear hVT hVl hT h9
        go_wp2
        go_still_tail 9, (by kernel_rfl)
        change wpList Try.prog _ _ _ _ wr.drew
        generalize (if T = F then ao else Option.map (fun x => x.add F) ao) = qo at sV ⊢
        refine wpList_copyO rfl _ _ _ _ rfl 2 under22 (by kernel_rfl) _ _ _ _ _ _ rfl rfl hown.drew F (V.map vw) (by rw [List.length_map]; exact hVm) (fun hp => ⟨rfl, sees_src sV hp⟩) (by rw [List.length_map]; have := HX.out.2.2; omega) (ws_one V) ?_
        intro w5 ho5 g5
        rw [splice_map, HX.out.1] at ho5
        have hb5 : Below fz w w5 := hbl.drew.grown g5 hfw (fun m e => by cases e; exact hgf)
        go_wp2
        go_roundw
        case rel => exact ⟨k + 1, by omega, by go_num, ho5, hb5⟩
        case measure => simp [intOf]; omega
    · obtain rfl : k = Q := by omega
      go_wp2
      go_ret
      exact ⟨_, rfl, by rw [HF.out]; exact hown, by rw [HF.out]; exact hbl⟩
end Go.Proofs.Ytehlibeedieclaa.Gr
