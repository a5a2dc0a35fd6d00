/-
  The contracts of trig.turns and trig.Turn: the thirty turns, in an array.
-/
import Derived.Test.YtliebglildaneaaHalf
import Derived.Test.YtliebglildaneaaTrigN
import Derived.Great.BuildSlice
import Derived.Deep.WholeRow
namespace Go.Proofs.Ytliebglildaneaa
open Go.RowKit Qm Tm

/-- the turns, as the code's array holds them -/
def TL : List Int := [536870912, 316933406, 167458907, 85004756, 42667331, 21354465, 10679838, 5340245, 2670163, 1335087, 667544, 333772, 166886, 83443, 41722, 20861, 10430, 5215, 2608, 1304, 652, 326, 163, 81, 41, 20, 10, 5, 3, 1]
def TV : Array Value := (TL.map (Value.int .i32)).toArray
theorem TV_def : TV = (TL.map (Value.int .i32)).toArray := by unfold TV; rfl
theorem TV_size : TV.size = 30 := by rw [TV_def]; rfl
theorem TV_one : TV.all (·.oneCell') = true := by rw [TV_def]; kernel_rfl
/-- an operation that yields a value -/
theorem wp_run {P : Program} {ops : Array Oper} {rest : List Oper} {o : Oper} {a : Act} {w : World} {Q : Exit → Act → World → Prop} (hg : o.guard = none) (d : Option Tmp) (hd : o.dst = d)
    (v : Value) (w' : World) (hrun : (execOp a.eval o).run P w = .ok (.value v) w') (h : wpList P ops Q rest (a.put d v) w') : wpList P ops Q (o :: rest) a w := by
  subst hd
  refine wpList_plain hg fun K hK => ?_
  unfold Oper.wp
  rw [hrun, Oper.upon_value]
  exact hK _ _ h

theorem zero48 : (Try.prog.info? 48).map (fun i => (i.zero, i.size)) = some (some (.agg (Array.replicate 30 (.int .i32 0))), 30) := by kernel_rfl
theorem und48 : Try.prog.underlying 48 = some (.array 30 21) := by kernel_rfl

set_option maxHeartbeats 400000 in
theorem turns_any (w : World) : Calls Try.prog 27 #[] w fun e w' => e = .returned (.agg TV) ∧ w' = w.alloc (.cells TV 48) := by
  obtain ⟨z1, z2⟩ := zero_of_info zero48
  go_enter Try.func27, Try.ntmps27
  refine wp_seq (wp_region_lit ?_)
  refine wp_run rfl (some 0) rfl (.pointer (some ⟨w.heap.size, 0, none⟩)) (w.alloc (.cells (Array.replicate 30 (.int .i32 0)) 48)) ?_ ?_
  · simp [execOp, Instr.alloc, z1, go_sem]
  refine wpList_nil ?_
  refine wp_seq (wp_region_lit ?_)
  refine wpList_buildFlatArrTo rfl 48 21 30 _ rfl .i32 TL (some 1) rfl und48 (by kernel_rfl) (by kernel_rfl) (by kernel_rfl) ?_
  rw [← TV_def]
  refine wpList_store_rowTo rfl 48 _ _ rfl rfl w.heap.size TV rfl rfl 48 _ (heap_alloc_last w _) (by rw [TV_size]; exact z2) (by rw [TV_size]; simp) TV_one ?_
  rw [World.setRow_alloc_new]
  refine wpList_nil ?_
  refine wp_ret ?_
  refine bodyPost_ret (v := .agg TV) ?_ rfl ⟨rfl, rfl⟩
  exact results_cell_row (P := Try.prog) rfl _ _ w.heap.size 48 TV (0, 0) _ rfl (heap_alloc_last w _) und48 rfl (by rw [TV_size]; exact z2)

theorem TV_at {k : Nat} (h : k < 30) : TV[k]? = some (.int .i32 (T k)) := by
  have e : ∀ k : Fin 30, TL[k.val]? = some (T k.val) := by decide
  rw [TV_def, List.getElem?_toArray, List.getElem?_map, e ⟨k, h⟩]
  rfl
theorem idx48 {k : Nat} (h : k < 30) (w : World) : (Instr.index 48 (.agg TV) (.int .i64 (k : Int))).run Try.prog w = .ok (.int .i32 (T k)) w := by
  have hk := TV_at h
  have hi : (Try.prog.info? 21).map (·.size) = some 1 := by kernel_rfl
  have hu : Try.prog.underlying 21 = some (.int .i32) := by kernel_rfl
  cases hq : Try.prog.info? 21 with
  | none => simp [hq] at hi
  | some i =>
    have hs : i.size = 1 := by simpa [hq] using hi
    simp [Instr.index, asIntOf, run_underlying und48, part, isAgg, run_underlying hu, sizeOf, typeInfo, hq, hs, hk]
    omega

set_option maxHeartbeats 400000 in
theorem turn_in (k : Nat) (w : World) (h : k < 30) : Calls Try.prog 14 #[.int .i64 k] w fun e w' => e = .returned (.int .i32 (T k)) ∧ w' = w.alloc (.cells TV 48) := by
  have hk := idx48 h
  have h1 : (k : Int) < 30 := by omega
  go_enter Try.func14, Try.ntmps14
  go_wp2_with (go_at_call 27; refine (turns_any _).mono ?_; rintro e w' ⟨rfl, rfl⟩)
  go_ret
  exact ⟨rfl, rfl⟩

end Go.Proofs.Ytliebglildaneaa
