/-
  The argument of KalmanMakes, opened: what its slices show, and how long they may be.
-/
import Derived.Test.YtiniobcknmaigaaGOpenS
namespace Go.Proofs.Ytiniobcknmaigaa
open Go.ChangeShapes Go.WideShapes Go.ChangeAt Go.RowKit Qm

/-- nil, or somewhere -/
def Strict (v : Value) : Prop := v = .slice none 0 0 ∨ ∃ a n c, v = .slice (some a) n c
theorem mem_each {H : Type} {P : Program} : ∀ (ts : List TypeId) (ds : List (DataW H)) (i : Nat) (ty : TypeId) (d : DataW H) (m : Nat), ts[i]? = some ty → ds[i]? = some d → m ∈ d.weights P ty → m ∈ DataW.weightsEach P ts ds
  | [], _, _, _, _, _, h, _, _ => by simp at h
  | _ :: _, [], _, _, _, _, _, h, _ => by simp at h
  | t :: ts, e :: ds, 0, ty, d, m, h1, h2, h3 => by
    simp at h1 h2
    subst h1 h2
    unfold DataW.weightsEach
    exact List.mem_append_left _ h3
  | t :: ts, e :: ds, i + 1, ty, d, m, h1, h2, h3 => by
    simp at h1 h2
    unfold DataW.weightsEach
    exact List.mem_append_right _ (mem_each ts ds i ty d m h1 h2 h3)
section
variable {H : Type} {enc : TypeId × Value → H} {w : World} {base : Nat} {spare : Nat → Bool} {held : Bool}
set_option maxRecDepth 40000 in
theorem fields_w {t : TypeId} {shape : List (TypeId × Nat)} {fuel : Nat} {cs : List Value} {x : DataW H × List MemPlace} (hsh : shapeOf Try.prog t = shape) (hne : shape ≠ []) (h : DataW.trod enc Try.prog w base spare held fuel t cs = some x) {R : Nat} (hR : ∀ m ∈ x.1.weights Try.prog t, m ≤ R) :
    cs.length = Try.prog.cellsOf t ∧ ∃ n, ∀ (i : Nat) (ty : TypeId) (off : Nat), shape[i]? = some (ty, off) → ∃ y, DataW.trod enc Try.prog w base spare held n ty (List.take (Try.prog.cellsOf ty) (List.drop off cs)) = some y ∧ ∀ m ∈ y.1.weights Try.prog ty, m ≤ R := by
  unfold shapeOf at hsh
  cases hu : Try.prog.underlying t with
  | none => rw [hu] at hsh; exact absurd hsh.symm hne
  | some u =>
    rw [hu] at hsh
    cases u with
    | struct fs =>
      simp only at hsh
      obtain ⟨xs, n, _, hx, hl, hxl, hg⟩ := DataW.trod_struct hu h
      refine ⟨hl, n, fun i ty off hi => ?_⟩
      rw [← hsh] at hi
      simp only [List.getElem?_map, Array.getElem?_toList] at hi
      cases e : fs[i]? with
      | none => rw [e] at hi; cases hi
      | some f =>
        rw [e] at hi
        simp at hi
        have q := hg i f e
        rw [hi.1, hi.2] at q
        have hlt : i < xs.length := by rw [hxl]; exact (Array.getElem?_eq_some_iff.1 e).1
        rw [List.getElem?_eq_getElem hlt] at q
        refine ⟨_, q, fun m hm => hR m ?_⟩
        rw [hx]
        simp only [DataW.weights, hu]
        refine mem_each _ _ i ty xs[i].1 m ?_ ?_ hm
        · rw [List.getElem?_map, Array.getElem?_toList, e]; simp [hi.1]
        · rw [List.getElem?_map, List.getElem?_eq_getElem hlt]; rfl
    | _ => simp at hsh; first | exact absurd hsh hne | exact absurd hsh.symm hne
theorem Try.by33 : Try.prog.bytesOf 41 = 8 := by kernel_rfl
set_option maxRecDepth 40000 in
theorem slice_w {fuel : Nat} {cs : List Value} {x : DataW H × List MemPlace} (h : DataW.trod enc Try.prog w base spare held fuel 22 cs = some x) {R : Nat} (hR : ∀ m ∈ x.1.weights Try.prog 22, m ≤ R) :
    ∃ v xs, cs = [v] ∧ Sees w v xs ∧ Strict v ∧ xs.length * 8 ≤ R := by
  rcases open_ints Try.under22 Try.u33 Try.c33 h with ⟨rfl, _⟩ | ⟨a, len, cap, zs, rfl, _, hlc, _, hz, hx, hcell, _⟩
  · exact ⟨_, [], rfl, ⟨none, 0, rfl, fun k hk => absurd hk (Nat.not_lt_zero k)⟩, .inl rfl, by simp⟩
  · have hlen : len ≤ zs.length := by rw [hz]; split <;> omega
    have hl : (zs.take len).length = len := by simp; omega
    refine ⟨_, zs.take len, rfl, ⟨some a, cap, by rw [hl], fun k hk => ?_⟩, .inr ⟨_, _, _, rfl⟩, ?_⟩
    · rw [hl] at hk
      have h1 := hcell k (by omega)
      refine ⟨a, rfl, ?_, ?_⟩
      · have := block_lt_of_cell h1; rw [add_block] at this; exact this
      · rw [h1]
        unfold ge
        rw [List.getD_eq_getElem?_getD, List.getD_eq_getElem?_getD, List.getElem?_take, if_pos hk]
    · rw [hx] at hR
      simp only [DataW.weights, Try.under22] at hR
      have h1 := hR _ (List.mem_cons_self ..)
      rw [Try.by33] at h1
      have e1 : (lits .i64 (zs.take len) : List (DataW H)).length = len := by simp [lits]; omega
      rw [hl]
      rw [e1] at h1
      exact Nat.le_trans (Nat.mul_le_mul_right 8 (Nat.le_add_right _ _)) h1
set_option maxRecDepth 40000 in
theorem mat_w {n : Nat} {cs : List Value} {x : DataW H × List MemPlace} (h : DataW.trod enc Try.prog w base spare held n 24 cs = some x) {R : Nat} (hR : ∀ m ∈ x.1.weights Try.prog 24, m ≤ R) : ∃ (ra ca : Int) (sl : Value) (xs : List Int), cs = [.int .i64 ra, .int .i64 ca, sl] ∧ Sees w sl xs ∧ xs.length * 8 ≤ R := by
  obtain ⟨hl, m, hf⟩ := fields_w Try.shape24 (by simp) h hR
  rw [Try.c24] at hl
  obtain ⟨y0, h0, _⟩ := hf 0 _ _ rfl
  obtain ⟨y1, h1, _⟩ := hf 1 _ _ rfl
  obtain ⟨y2, h2, g2⟩ := hf 2 _ _ rfl
  rw [Try.c3] at h0 h1
  rw [Try.c22] at h2
  obtain ⟨ra, e0⟩ := int_cell Try.u3 h0
  obtain ⟨ca, e1⟩ := int_cell Try.u3 h1
  obtain ⟨sl, zs, e2, hs, _, hb⟩ := slice_w h2 g2
  refine ⟨ra, ca, sl, zs, ?_, hs, hb⟩
  match cs, hl with
  | [x, y, z], _ =>
    simp at e0 e1 e2
    rw [e0, e1, e2]
set_option maxRecDepth 40000 in
theorem track_w {n : Nat} {cs : List Value} {x : DataW H × List MemPlace} (h : DataW.trod enc Try.prog w base spare held n 26 cs = some x) {R : Nat} (hR : ∀ m ∈ x.1.weights Try.prog 26, m ≤ R) :
    ∃ (r1 c1 r2 c2 : Int) (s1 s2 : Value) (xs ps : List Int), cs = [.int .i64 r1, .int .i64 c1, s1, .int .i64 r2, .int .i64 c2, s2] ∧ Sees w s1 xs ∧ Sees w s2 ps ∧ xs.length * 8 ≤ R ∧ ps.length * 8 ≤ R := by
  obtain ⟨hl, m, hf⟩ := fields_w Try.shapeT (by simp) h hR
  rw [Try.cT] at hl
  obtain ⟨y0, h0, g0⟩ := hf 0 _ _ rfl
  obtain ⟨y1, h1, g1⟩ := hf 1 _ _ rfl
  rw [Try.c24] at h0 h1
  obtain ⟨ra, ca, sl, xs, e0, s0, l0⟩ := mat_w h0 g0
  obtain ⟨rb, cb, sm, ps, e1, s1, l1⟩ := mat_w h1 g1
  refine ⟨ra, ca, rb, cb, sl, sm, xs, ps, ?_, s0, s1, l0, l1⟩
  match cs, hl with
  | [x, y, z, u, v, t], _ =>
    simp at e0 e1
    obtain ⟨rfl, rfl, rfl⟩ := e0
    obtain ⟨rfl, rfl, rfl⟩ := e1
    rfl
set_option maxRecDepth 40000 in
theorem makes_w {r : Reach} {b0 : Nat} {v : Value} {d : DataW H} {p : List MemPlace} (hv : Value.okWide Try.prog w r b0 28 v) (h : DataW.Trod enc Try.prog w base spare held 28 v d p) {R : Nat} (hR : ∀ m ∈ d.weights Try.prog 28, m ≤ R) :
    ∃ (ta ua tb ub tc uc td ud : Int) (v1 v2 v3 v4 v5 v6 : Value) (xs vs ks ls ms ns : List Int), v = .agg #[v1, v2, .int .i64 ta, .int .i64 ua, v3, .int .i64 tb, .int .i64 ub, v4, .int .i64 tc, .int .i64 uc, v5, .int .i64 td, .int .i64 ud, v6] ∧ Sees w v1 xs ∧ Sees w v2 vs ∧ Sees w v3 ks ∧ Sees w v4 ls ∧ Sees w v5 ms ∧ Sees w v6 ns ∧ Strict v1 ∧ xs.length * 8 ≤ R ∧ vs.length * 8 ≤ R ∧ ks.length * 8 ≤ R ∧ ls.length * 8 ≤ R ∧ ms.length * 8 ≤ R ∧ ns.length * 8 ≤ R := by
  have hu : ∃ fs, Try.prog.underlying 28 = some (.struct fs) := by
    have hsh := Try.shapeMk
    unfold shapeOf at hsh
    cases hu : Try.prog.underlying 28 with
    | none => rw [hu] at hsh; cases hsh
    | some u =>
      rw [hu] at hsh
      cases u with
      | struct fs => exact ⟨fs, rfl⟩
      | _ => simp at hsh
  obtain ⟨fs, hu⟩ := hu
  obtain ⟨ca, rfl, hsz⟩ := okWide_struct hu hv
  obtain ⟨fuel, hq⟩ := h
  obtain ⟨cs, hcs⟩ : ∃ cs, ca.toList = cs := ⟨_, rfl⟩
  have hc : (Value.agg ca).cells.toList = cs := hcs
  rw [hc] at hq
  have hv' : Value.agg ca = .agg cs.toArray := by rw [← hcs]
  rw [hv']
  obtain ⟨hl, m, hf⟩ := fields_w Try.shapeMk (by simp) hq hR
  rw [Try.cMk] at hl
  obtain ⟨y0, h0, g0⟩ := hf 0 _ _ rfl
  obtain ⟨y1, h1, g1⟩ := hf 1 _ _ rfl
  obtain ⟨y2, h2, g2⟩ := hf 2 _ _ rfl
  obtain ⟨y3, h3, g3⟩ := hf 3 _ _ rfl
  rw [Try.c22] at h0 h1
  rw [Try.cT] at h2 h3
  obtain ⟨v1, xs, e0, s1, k1, l1⟩ := slice_w h0 g0
  obtain ⟨v2, vs, e1, s2, _, l2⟩ := slice_w h1 g1
  obtain ⟨ta, ua, tb, ub, v3, v4, ks, ls, e2, s3, s4, l3, l4⟩ := track_w h2 g2
  obtain ⟨tc, uc, td, ud, v5, v6, ms, ns, e3, s5, s6, l5, l6⟩ := track_w h3 g3
  refine ⟨ta, ua, tb, ub, tc, uc, td, ud, v1, v2, v3, v4, v5, v6, xs, vs, ks, ls, ms, ns, ?_, s1, s2, s3, s4, s5, s6, k1, l1, l2, l3, l4, l5, l6⟩
  clear hf h0 h1 h2 h3 hq s1 s2 s3 s4 s5 s6 g0 g1 g2 g3 l1 l2 l3 l4 l5 l6 k1 hR
  have split : cs = cs.take 1 ++ ((cs.drop 1).take 1 ++ ((cs.drop 2).take 6 ++ (cs.drop 8).take 6)) := by
    match cs, hl with
    | [a0, a1, a2, a3, a4, a5, a6, a7, a8, a9, a10, a11, a12, a13], _ => rfl
  have e0' : cs.take 1 = _ := e0
  rw [e0', e1, e2, e3] at split
  rw [split]
  rfl
end
end Go.Proofs.Ytiniobcknmaigaa
