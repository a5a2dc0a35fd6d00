/-
  Texts joined, in the order in which they stand on one another: OwnM UpkR UprR.
-/
import Derived.Test.YtiniobcknmaigaaGreatG19
/-
  Numbers of a matrix that are a call's own (they may be written), beside 'Sees': what stays.
-/
namespace Go.Proofs.YtiniobcknmaigaaGreat
open Go.RowKit Go.Sort Qm

def Owned (n B : Nat) (w : World) (v : Value) (xs : List Int) : Prop := xs.length = n ∧ 0 < n ∧ w.ownsRow B 27 1 v n (xs.map (Value.int .i64))
theorem Owned.sees {n B : Nat} {w : World} {v : Value} {xs : List Int} (h : Owned n B w v xs) : Sees w v xs := Sees.own h.2.2
theorem Owned.mono {n B B' : Nat} {w : World} {v : Value} {xs : List Int} (h : Owned n B w v xs) (hb : B' ≤ B) : Owned n B' w v xs := ⟨h.1, h.2.1, own_mono h.2.2 hb⟩
theorem Owned.below {n B : Nat} {w w' : World} {v : Value} {xs : List Int} (h : Owned n B w v xs) (hb : Below w.heap.size w w') : Owned n B w' v xs := ⟨h.1, h.2.1, h.2.2.kept (gb_below none hb) (by cases hv : v.ownBlock <;> simp)⟩
theorem Owned.set' {n B : Nat} {w : World} {v : Value} {xs : List Int} (h : Owned n B w v xs) {a : Addr} (ha : ∀ k, v.ownBlock = some k → k ≠ a.block) (u : Value) : Owned n B (w.setCell a u) v xs := by
  refine ⟨h.1, h.2.1, h.2.2.1, ?_⟩
  rcases h.2.2.2 with h2 | ⟨g, cap, cur, hv, hg, hh, r⟩
  · exact .inl h2
  · exact .inr ⟨g, cap, cur, hv, hg, by rw [Below.heap_setCell _ _ _ _ (ha g (by rw [hv]; rfl))]; exact hh, r⟩
theorem Owned.lt {n B : Nat} {w : World} {v : Value} {xs : List Int} (h : Owned n B w v xs) (_ : 0 < xs.length) : ∀ k, v.ownBlock = some k → k < w.heap.size := fun k hk => (h.2.2.lt k hk).2
theorem Owned.new {n B : Nat} {w : World} {v : Value} {xs : List Int} (h : Owned n B w v xs) : New B v := fun k hk => (h.2.2.lt k hk).1
theorem Owned.slice {n B : Nat} {w : World} {v : Value} {xs : List Int} (h : Owned n B w v xs) : ∃ ao cap, v = .slice ao xs.length cap := by
  rcases h.2.2.2 with ⟨_, h2⟩ | ⟨g, cap, cur, hv, _⟩
  · have := h.2.1; omega
  · exact ⟨_, cap, by rw [h.1]; exact hv⟩
end Go.Proofs.YtiniobcknmaigaaGreat

/-
  The statement of the document's Update that makes k, in whatever order: what it leaves.
-/
namespace Go.Proofs.YtiniobcknmaigaaGreat
open Go.RowKit Go.Sort Qm
set_option linter.unusedVariables false
def upkOps : Array Oper := #[
    { dst := some 94, op := Op.fieldAddr 26 (Operand.tmp 5) 1, type := 0, pos := "ref.go:112", after := #[], guard := none },
    { dst := some 95, op := Op.load 24 (Operand.tmp 94), type := 24, pos := "ref.go:112", after := #[{ on := 0, ground := Ground.data }], guard := none },
    { dst := some 96, op := Op.load 24 (Operand.tmp 6), type := 24, pos := "ref.go:112", after := #[], guard := none },
    { dst := some 97, op := Op.call { callee := Callee.value (Operand.func 32), args := #[Operand.tmp 96], argTypes := #[24] }, type := 24, pos := "ref.go:112", after := #[{ on := 2, ground := Ground.data }], guard := none },
    { dst := some 98, op := Op.call { callee := Callee.value (Operand.func 24), args := #[Operand.tmp 95, Operand.tmp 97], argTypes := #[24, 24] }, type := 61, pos := "ref.go:112", after := #[{ on := 1, ground := Ground.data }, { on := 3, ground := Ground.data }, { on := 3, ground := Ground.chain }], guard := none },
    { dst := some 93, op := Op.move (Operand.tmp 98), type := 61, pos := "ref.go:112", after := #[{ on := 4, ground := Ground.data }], guard := none },
    { dst := some 99, op := Op.extract (Operand.tmp 93) 0, type := 24, pos := "ref.go:112", after := #[{ on := 5, ground := Ground.data }], guard := none },
    { dst := some 100, op := Op.extract (Operand.tmp 93) 1, type := 4, pos := "ref.go:112", after := #[{ on := 5, ground := Ground.data }, { on := 10, ground := Ground.gcOnly Departure.lateStores }], guard := none },
    { dst := some 101, op := Op.extract (Operand.tmp 93) 2, type := 3, pos := "ref.go:112", after := #[{ on := 5, ground := Ground.data }, { on := 11, ground := Ground.gcOnly Departure.lateStores }], guard := none },
    { dst := some 22, op := Op.alloc 24, type := 0, pos := "ref.go:112", after := #[], guard := none },
    { dst := none, op := Op.store 24 (Operand.tmp 22) (Operand.tmp 99), type := 0, pos := "ref.go:112", after := #[{ on := 9, ground := Ground.data }, { on := 6, ground := Ground.data }, { on := 4, ground := Ground.chain }, { on := 0, ground := Ground.phase }, { on := 1, ground := Ground.phase }, { on := 2, ground := Ground.phase }, { on := 3, ground := Ground.phase }, { on := 4, ground := Ground.phase }, { on := 5, ground := Ground.phase }, { on := 6, ground := Ground.phase }, { on := 7, ground := Ground.textOnly Departure.lateStores }, { on := 8, ground := Ground.textOnly Departure.lateStores }, { on := 9, ground := Ground.phase }], guard := none },
    { dst := some 23, op := Op.assign (Operand.tmp 100), type := 4, pos := "ref.go:112", after := #[{ on := 7, ground := Ground.data }, { on := 10, ground := Ground.chain }, { on := 0, ground := Ground.phase }, { on := 1, ground := Ground.phase }, { on := 2, ground := Ground.phase }, { on := 3, ground := Ground.phase }, { on := 4, ground := Ground.phase }, { on := 5, ground := Ground.phase }, { on := 6, ground := Ground.phase }, { on := 7, ground := Ground.phase }, { on := 8, ground := Ground.textOnly Departure.lateStores }, { on := 9, ground := Ground.phase }, { on := 10, ground := Ground.phase }], guard := none },
    { dst := some 24, op := Op.assign (Operand.tmp 101), type := 3, pos := "ref.go:112", after := #[{ on := 8, ground := Ground.data }, { on := 11, ground := Ground.chain }, { on := 0, ground := Ground.phase }, { on := 1, ground := Ground.phase }, { on := 2, ground := Ground.phase }, { on := 3, ground := Ground.phase }, { on := 4, ground := Ground.phase }, { on := 5, ground := Ground.phase }, { on := 6, ground := Ground.phase }, { on := 7, ground := Ground.phase }, { on := 8, ground := Ground.phase }, { on := 9, ground := Ground.phase }, { on := 10, ground := Ground.phase }, { on := 11, ground := Ground.phase }], guard := none }]
def upkDst (i : Nat) : Nat := [94, 95, 96, 97, 98, 93, 99, 100, 101, 22, 1000, 23, 24].getD i 0
def upkFr (D5 : Nat) (D6 : Nat) (n : Nat) (M : Nat) (jo : Option Addr) (jn : Nat) (jcap : Nat) (po : Option Addr) (pn : Nat) (pcap : Nat) (ts : List Int) (zs : List Int) (X : Bool) (u0 u1 u2 u3 u4 u7 u8 u9 u10 u11 u12 u13 u14 u15 u16 u17 u18 u19 u20 u21 u25 u26 u27 u28 u29 u30 u31 u32 u33 u34 u35 u36 u37 u38 u39 u40 u41 u42 u43 u44 u45 u46 u47 u48 u49 u50 u51 u52 u53 u54 u55 u56 u57 u58 u59 u60 u61 u62 u63 u64 u65 u66 u67 u68 u69 u70 u71 u72 u73 u74 u75 u76 u77 u78 u79 u80 u81 u82 u83 u84 u85 u86 u87 u88 u89 u90 u91 u92 u102 u103 u104 u105 u106 u107 u108 u109 u110 u111 u112 u113 u114 u115 u116 u117 u118 u119 u120 u121 u122 u123 u124 u125 u126 u127 u128 u129 u130 u131 u132 u133 u134 u135 u136 u137 u138 u139 u140 u141 u142 u143 u144 u145 u146 u147 u148 u149 u150 u151 u152 u153 u154 u155 u156 u157 u158 u159 u160 u161 u162 u163 u164 u165 u166 u167 u168 u169 u170 u171 u172 u173 u174 u175 u176 u177 u178 u179 u180 u181 u182 u183 u184 u185 u186 u187 u188 u189 u190 u191 u192 u193 u194 u195 u196 u197 u198 u199 u200 u201 u202 u203 u204 u205 u206 u207 u208 u209 u210 u211 u212 u213 u214 u215 u216 u217 u218 u219 u220 u221 u222 u223 u224 : Value) (vs : Nat → Value) : Act := ⟨#[u0, u1, u2, u3, u4, .pointer (some ⟨D5, 0, none⟩), .pointer (some ⟨D6, 0, none⟩), u7, u8, u9, u10, u11, u12, u13, u14, u15, u16, u17, u18, u19, u20, u21, vs 22, vs 23, vs 24, u25, u26, u27, u28, u29, u30, u31, u32, u33, u34, u35, u36, u37, u38, u39, u40, u41, u42, u43, u44, u45, u46, u47, u48, u49, u50, u51, u52, u53, u54, u55, u56, u57, u58, u59, u60, u61, u62, u63, u64, u65, u66, u67, u68, u69, u70, u71, u72, u73, u74, u75, u76, u77, u78, u79, u80, u81, u82, u83, u84, u85, u86, u87, u88, u89, u90, u91, u92, vs 93, vs 94, vs 95, vs 96, vs 97, vs 98, vs 99, vs 100, vs 101, u102, u103, u104, u105, u106, u107, u108, u109, u110, u111, u112, u113, u114, u115, u116, u117, u118, u119, u120, u121, u122, u123, u124, u125, u126, u127, u128, u129, u130, u131, u132, u133, u134, u135, u136, u137, u138, u139, u140, u141, u142, u143, u144, u145, u146, u147, u148, u149, u150, u151, u152, u153, u154, u155, u156, u157, u158, u159, u160, u161, u162, u163, u164, u165, u166, u167, u168, u169, u170, u171, u172, u173, u174, u175, u176, u177, u178, u179, u180, u181, u182, u183, u184, u185, u186, u187, u188, u189, u190, u191, u192, u193, u194, u195, u196, u197, u198, u199, u200, u201, u202, u203, u204, u205, u206, u207, u208, u209, u210, u211, u212, u213, u214, u215, u216, u217, u218, u219, u220, u221, u222, u223, u224], []⟩
def upkT (W : Nat) (D5 : Nat) (D6 : Nat) (n : Nat) (M : Nat) (jo : Option Addr) (jn : Nat) (jcap : Nat) (po : Option Addr) (pn : Nat) (pcap : Nat) (ts : List Int) (zs : List Int) (X : Bool) : Nat → Value → World → Prop
  | 9, v, w => ∃ D, v = .pointer (some ⟨D, 0, none⟩) ∧ W ≤ D ∧ ∃ x y z, w.heap[D]? = some (.cells #[x, y, z] 24 (0, 0))
  | 3, v, w => ∃ sl, v = .agg #[.int .i64 n, .int .i64 1, sl] ∧ Sees w sl ts ∧ New W sl
  | 4, v, w => ∃ sl, v = .tuple #[.agg #[.int .i64 n, .int .i64 1, sl], .bool X, .int .i64 0] ∧ Owned M 0 w sl zs ∧ New W sl
  | 5, v, w => ∃ sl, v = .tuple #[.agg #[.int .i64 n, .int .i64 1, sl], .bool X, .int .i64 0] ∧ Owned M 0 w sl zs ∧ New W sl
  | 6, v, w => ∃ sl, v = .agg #[.int .i64 n, .int .i64 1, sl] ∧ Owned M 0 w sl zs ∧ New W sl
  | i, v, _ => v = ([.pointer (some ⟨D5, 3, none⟩), .agg #[.int .i64 n, .int .i64 n, .slice po pn pcap], .agg #[.int .i64 1, .int .i64 n, .slice jo jn jcap], undef, undef, undef, undef, .bool X, .int .i64 0, undef, undef, .bool X, .int .i64 0] : List Value).getD i undef
def upkO : Nat → Value → List Nat
  | 3, v => obl v
  | 4, v => obl (tupOf v)
  | 5, v => obl (tupOf v)
  | 6, v => obl v
  | _, _ => []
theorem upkT_mono (W : Nat) (D5 : Nat) (D6 : Nat) (n : Nat) (M : Nat) (jo : Option Addr) (jn : Nat) (jcap : Nat) (po : Option Addr) (pn : Nat) (pcap : Nat) (ts : List Int) (zs : List Int) (X : Bool) : ∀ i v w w', upkT W D5 D6 n M jo jn jcap po pn pcap ts zs X i v w → Below w.heap.size w w' → upkT W D5 D6 n M jo jn jcap po pn pcap ts zs X i v w' := by
  intro i v w w' h hb
  unfold upkT at *
  split
  · obtain ⟨D, h1, h2, x, y, z, h3⟩ := h; exact ⟨D, h1, h2, x, y, z, keep hb h3⟩
  · obtain ⟨sl, h1, h2, h3⟩ := h; exact ⟨sl, h1, h2.below hb, h3⟩
  · obtain ⟨sl, h1, h2, h3⟩ := h; exact ⟨sl, h1, h2.below hb, h3⟩
  · obtain ⟨sl, h1, h2, h3⟩ := h; exact ⟨sl, h1, h2.below hb, h3⟩
  · obtain ⟨sl, h1, h2, h3⟩ := h; exact ⟨sl, h1, h2.below hb, h3⟩
  · simp_all
theorem upkT_set (W : Nat) (D5 : Nat) (D6 : Nat) (n : Nat) (M : Nat) (jo : Option Addr) (jn : Nat) (jcap : Nat) (po : Option Addr) (pn : Nat) (pcap : Nat) (ts : List Int) (zs : List Int) (X : Bool) (C : Nat) (k : Nat) (hk : k < 3) (x : Value) : ∀ i v w, (∀ k ∈ upkO i v, k ≠ C) → upkT W D5 D6 n M jo jn jcap po pn pcap ts zs X i v w → upkT W D5 D6 n M jo jn jcap po pn pcap ts zs X i v (w.setCell ⟨C, k, none⟩ x) := by
  intro i v w ho h
  unfold upkT at *
  unfold upkO at ho
  split
  · obtain ⟨D, h1, h2, h3⟩ := h; exact ⟨D, h1, h2, three_set hk h3⟩
  · obtain ⟨sl, h1, h2, h3⟩ := h; subst h1; exact ⟨sl, rfl, h2.set' (a := ⟨C, k, none⟩) (fun b hb => ho b (by simp [obl, hb])) x, h3⟩
  · obtain ⟨sl, h1, h2, h3⟩ := h; subst h1; exact ⟨sl, rfl, h2.set' (a := ⟨C, k, none⟩) (fun b hb => ho b (by simp [obl, tupOf, hb])) x, h3⟩
  · obtain ⟨sl, h1, h2, h3⟩ := h; subst h1; exact ⟨sl, rfl, h2.set' (a := ⟨C, k, none⟩) (fun b hb => ho b (by simp [obl, tupOf, hb])) x, h3⟩
  · obtain ⟨sl, h1, h2, h3⟩ := h; subst h1; exact ⟨sl, rfl, h2.set' (a := ⟨C, k, none⟩) (fun b hb => ho b (by simp [obl, hb])) x, h3⟩
  · simp_all
theorem upkO_lt (W : Nat) (D5 : Nat) (D6 : Nat) (n : Nat) (M : Nat) (jo : Option Addr) (jn : Nat) (jcap : Nat) (po : Option Addr) (pn : Nat) (pcap : Nat) (ts : List Int) (zs : List Int) (X : Bool) (z_ts : 0 < ts.length) (z_zs : 0 < zs.length) : ∀ i v w, upkT W D5 D6 n M jo jn jcap po pn pcap ts zs X i v w → ∀ k ∈ upkO i v, k < w.heap.size := by
  intro i v w h k hk
  unfold upkT at h
  unfold upkO at hk
  split at h
  · cases hk
  · obtain ⟨sl, h1, h2, _⟩ := h; subst h1; exact h2.lt z_ts k (by simpa [obl] using hk)
  · obtain ⟨sl, h1, h2, _⟩ := h; subst h1; exact h2.lt z_zs k (by simpa [obl, tupOf] using hk)
  · obtain ⟨sl, h1, h2, _⟩ := h; subst h1; exact h2.lt z_zs k (by simpa [obl, tupOf] using hk)
  · obtain ⟨sl, h1, h2, _⟩ := h; subst h1; exact h2.lt z_zs k (by simpa [obl] using hk)
  · simp_all
set_option maxRecDepth 40000 in
set_option maxHeartbeats 4000000 in
theorem upk_region {Q : Exit → Act → World → Prop} {w0 : World} {D5 : Nat} {D6 : Nat} {n : Nat} {M : Nat} {jo : Option Addr} {jn : Nat} {jcap : Nat} {po : Option Addr} {pn : Nat} {pcap : Nat} {ts : List Int} {zs : List Int} {X : Bool} {u0 u1 u2 u3 u4 u7 u8 u9 u10 u11 u12 u13 u14 u15 u16 u17 u18 u19 u20 u21 u25 u26 u27 u28 u29 u30 u31 u32 u33 u34 u35 u36 u37 u38 u39 u40 u41 u42 u43 u44 u45 u46 u47 u48 u49 u50 u51 u52 u53 u54 u55 u56 u57 u58 u59 u60 u61 u62 u63 u64 u65 u66 u67 u68 u69 u70 u71 u72 u73 u74 u75 u76 u77 u78 u79 u80 u81 u82 u83 u84 u85 u86 u87 u88 u89 u90 u91 u92 u102 u103 u104 u105 u106 u107 u108 u109 u110 u111 u112 u113 u114 u115 u116 u117 u118 u119 u120 u121 u122 u123 u124 u125 u126 u127 u128 u129 u130 u131 u132 u133 u134 u135 u136 u137 u138 u139 u140 u141 u142 u143 u144 u145 u146 u147 u148 u149 u150 u151 u152 u153 u154 u155 u156 u157 u158 u159 u160 u161 u162 u163 u164 u165 u166 u167 u168 u169 u170 u171 u172 u173 u174 u175 u176 u177 u178 u179 u180 u181 u182 u183 u184 u185 u186 u187 u188 u189 u190 u191 u192 u193 u194 u195 u196 u197 u198 u199 u200 u201 u202 u203 u204 u205 u206 u207 u208 u209 u210 u211 u212 u213 u214 u215 u216 u217 u218 u219 u220 u221 u222 u223 u224 : Value} (z_ts : 0 < ts.length) (z_zs : 0 < zs.length)
    (cP : ∀ w, Below w0.heap.size w0 w → w.cell? ⟨D5, 3, none⟩ = some (.int .i64 n) ∧ w.cell? ⟨D5, 4, none⟩ = some (.int .i64 n) ∧ w.cell? ⟨D5, 5, none⟩ = some (.slice po pn pcap))
    (cH : ∀ w, Below w0.heap.size w0 w → w.cell? ⟨D6, 0, none⟩ = some (.int .i64 1) ∧ w.cell? ⟨D6, 1, none⟩ = some (.int .i64 n) ∧ w.cell? ⟨D6, 2, none⟩ = some (.slice jo jn jcap))
    (kT : ∀ w, Below w0.heap.size w0 w → Calls Tryz.prog 32 #[.agg #[.int .i64 1, .int .i64 n, .slice jo jn jcap]] w fun e b => ∃ v, e = .returned (.agg #[.int .i64 n, .int .i64 1, v]) ∧ Sees b v ts ∧ New w.heap.size v ∧ Below w.heap.size w b)
    (kM : ∀ w, Below w0.heap.size w0 w → ∀ s, Sees w s ts → Calls Tryz.prog 24 #[.agg #[.int .i64 n, .int .i64 n, .slice po pn pcap], .agg #[.int .i64 n, .int .i64 1, s]] w fun e b => ∃ v, e = .returned (.tuple #[.agg #[.int .i64 n, .int .i64 1, v], .bool X, .int .i64 0]) ∧ Owned M 0 b v zs ∧ New w.heap.size v ∧ Below w.heap.size w b)
    (hQ : ∀ vs D sl w, Below w0.heap.size w0 w → vs 22 = .pointer (some ⟨D, 0, none⟩) → vs 23 = .bool X → vs 24 = .int .i64 0 → w.heap[D]? = some (.cells #[.int .i64 n, .int .i64 1, sl] 24 (0, 0)) → w0.heap.size ≤ D → Owned M 0 w sl zs → New w0.heap.size sl → Q .normal (upkFr D5 D6 n M jo jn jcap po pn pcap ts zs X u0 u1 u2 u3 u4 u7 u8 u9 u10 u11 u12 u13 u14 u15 u16 u17 u18 u19 u20 u21 u25 u26 u27 u28 u29 u30 u31 u32 u33 u34 u35 u36 u37 u38 u39 u40 u41 u42 u43 u44 u45 u46 u47 u48 u49 u50 u51 u52 u53 u54 u55 u56 u57 u58 u59 u60 u61 u62 u63 u64 u65 u66 u67 u68 u69 u70 u71 u72 u73 u74 u75 u76 u77 u78 u79 u80 u81 u82 u83 u84 u85 u86 u87 u88 u89 u90 u91 u92 u102 u103 u104 u105 u106 u107 u108 u109 u110 u111 u112 u113 u114 u115 u116 u117 u118 u119 u120 u121 u122 u123 u124 u125 u126 u127 u128 u129 u130 u131 u132 u133 u134 u135 u136 u137 u138 u139 u140 u141 u142 u143 u144 u145 u146 u147 u148 u149 u150 u151 u152 u153 u154 u155 u156 u157 u158 u159 u160 u161 u162 u163 u164 u165 u166 u167 u168 u169 u170 u171 u172 u173 u174 u175 u176 u177 u178 u179 u180 u181 u182 u183 u184 u185 u186 u187 u188 u189 u190 u191 u192 u193 u194 u195 u196 u197 u198 u199 u200 u201 u202 u203 u204 u205 u206 u207 u208 u209 u210 u211 u212 u213 u214 u215 u216 u217 u218 u219 u220 u221 u222 u223 u224 vs) w) :
    (Code.region 9 upkOps true).wp Tryz.prog Q (upkFr D5 D6 n M jo jn jcap po pn pcap ts zs X u0 u1 u2 u3 u4 u7 u8 u9 u10 u11 u12 u13 u14 u15 u16 u17 u18 u19 u20 u21 u25 u26 u27 u28 u29 u30 u31 u32 u33 u34 u35 u36 u37 u38 u39 u40 u41 u42 u43 u44 u45 u46 u47 u48 u49 u50 u51 u52 u53 u54 u55 u56 u57 u58 u59 u60 u61 u62 u63 u64 u65 u66 u67 u68 u69 u70 u71 u72 u73 u74 u75 u76 u77 u78 u79 u80 u81 u82 u83 u84 u85 u86 u87 u88 u89 u90 u91 u92 u102 u103 u104 u105 u106 u107 u108 u109 u110 u111 u112 u113 u114 u115 u116 u117 u118 u119 u120 u121 u122 u123 u124 u125 u126 u127 u128 u129 u130 u131 u132 u133 u134 u135 u136 u137 u138 u139 u140 u141 u142 u143 u144 u145 u146 u147 u148 u149 u150 u151 u152 u153 u154 u155 u156 u157 u158 u159 u160 u161 u162 u163 u164 u165 u166 u167 u168 u169 u170 u171 u172 u173 u174 u175 u176 u177 u178 u179 u180 u181 u182 u183 u184 u185 u186 u187 u188 u189 u190 u191 u192 u193 u194 u195 u196 u197 u198 u199 u200 u201 u202 u203 u204 u205 u206 u207 u208 u209 u210 u211 u212 u213 u214 u215 u216 u217 u218 u219 u220 u221 u222 u223 u224 (fun _ => undef)) w0 := by
  refine wp_region_str (by kernel_rfl) (by decide) upkDst (by decide) (upkFr D5 D6 n M jo jn jcap po pn pcap ts zs X u0 u1 u2 u3 u4 u7 u8 u9 u10 u11 u12 u13 u14 u15 u16 u17 u18 u19 u20 u21 u25 u26 u27 u28 u29 u30 u31 u32 u33 u34 u35 u36 u37 u38 u39 u40 u41 u42 u43 u44 u45 u46 u47 u48 u49 u50 u51 u52 u53 u54 u55 u56 u57 u58 u59 u60 u61 u62 u63 u64 u65 u66 u67 u68 u69 u70 u71 u72 u73 u74 u75 u76 u77 u78 u79 u80 u81 u82 u83 u84 u85 u86 u87 u88 u89 u90 u91 u92 u102 u103 u104 u105 u106 u107 u108 u109 u110 u111 u112 u113 u114 u115 u116 u117 u118 u119 u120 u121 u122 u123 u124 u125 u126 u127 u128 u129 u130 u131 u132 u133 u134 u135 u136 u137 u138 u139 u140 u141 u142 u143 u144 u145 u146 u147 u148 u149 u150 u151 u152 u153 u154 u155 u156 u157 u158 u159 u160 u161 u162 u163 u164 u165 u166 u167 u168 u169 u170 u171 u172 u173 u174 u175 u176 u177 u178 u179 u180 u181 u182 u183 u184 u185 u186 u187 u188 u189 u190 u191 u192 u193 u194 u195 u196 u197 u198 u199 u200 u201 u202 u203 u204 u205 u206 u207 u208 u209 u210 u211 u212 u213 u214 u215 u216 u217 u218 u219 u220 u221 u222 u223 u224) (upkT w0.heap.size D5 D6 n M jo jn jcap po pn pcap ts zs X) (upkT_mono w0.heap.size D5 D6 n M jo jn jcap po pn pcap ts zs X) upkO (upkO_lt w0.heap.size D5 D6 n M jo jn jcap po pn pcap ts zs X z_ts z_zs) (fun _ => undef) 10 9
    (fun v w => ∃ D sl, v = .pointer (some ⟨D, 0, none⟩) ∧ w0.heap.size ≤ D ∧ w.heap[D]? = some (.cells #[.int .i64 n, .int .i64 1, sl] 24 (0, 0)) ∧ Owned M 0 w sl zs ∧ New w0.heap.size sl) (fun v w w' ⟨D, sl, h1, h2, h3, h4, h5⟩ hb => ⟨D, sl, h1, h2, keep hb h3, h4.below hb, h5⟩) (by decide) (by decide) (fun _ => rfl)
    (fun v w ⟨D, h1, h2, x, y, z, h3⟩ => ⟨D, h1, h2, lt_of_block h3⟩) ?_ ?_ ?_
  · intro i hi his vs w hb hp hv
    have hi' : i < 13 := hi
    rcases (by omega : i = 0 ∨ i = 1 ∨ i = 2 ∨ i = 3 ∨ i = 4 ∨ i = 5 ∨ i = 6 ∨ i = 7 ∨ i = 8 ∨ i = 9 ∨ i = 10 ∨ i = 11 ∨ i = 12) with rfl | rfl | rfl | rfl | rfl | rfl | rfl | rfl | rfl | rfl | rfl | rfl | rfl
    · exact wpOp_of _ rfl rfl (op_fieldT (i := 1) (by decide) rfl rfl ⟨_, rfl, rfl, Below.refl _ _, (fun h => absurd h (by decide)), (fun k hk => by cases hk)⟩)
    · have h0 : vs 94 = .pointer (some ⟨D5, 3, none⟩) := hp 0 (by decide) (by decide)
      exact wpOp_of _ rfl rfl (op_loadM rfl h0 (cP w hb).1 (cP w hb).2.1 (cP w hb).2.2 ⟨_, rfl, rfl, Below.refl _ _, (fun h => absurd h (by decide)), (fun k hk => by cases hk)⟩)
    · exact wpOp_of _ rfl rfl (op_loadM rfl rfl (cH w hb).1 (cH w hb).2.1 (cH w hb).2.2 ⟨_, rfl, rfl, Below.refl _ _, (fun h => absurd h (by decide)), (fun k hk => by cases hk)⟩)
    · have h2 : vs 96 = .agg #[.int .i64 1, .int .i64 n, .slice jo jn jcap] := hp 2 (by decide) (by decide)
      exact wpOp_of _ rfl rfl (op_call1 entersTr rfl h2 (kT w hb) (by rintro e b ⟨v, rfl, s', n', b'⟩; exact ⟨_, rfl, _, rfl, ⟨_, rfl, s', n'.mono hb.size⟩, b', (fun h => absurd h (by decide)), (fun k hk => .inr (n' k (by simpa [upkO, obl] using hk)))⟩))
    · have h1 : vs 95 = .agg #[.int .i64 n, .int .i64 n, .slice po pn pcap] := hp 1 (by decide) (by decide)
      obtain ⟨sl3, h3, s3, n3⟩ : ∃ sl, vs 97 = .agg #[.int .i64 n, .int .i64 1, sl] ∧ Sees w sl ts ∧ New w0.heap.size sl := hp 3 (by decide) (by decide)
      exact wpOp_of _ rfl rfl (op_call2 enters33 rfl h1 h3 (kM w hb _ s3) (by rintro e b ⟨v, rfl, s', n', b'⟩; exact ⟨_, rfl, _, rfl, ⟨_, rfl, s', n'.mono hb.size⟩, b', (fun h => absurd h (by decide)), (fun k hk => .inr (n' k (by simpa [upkO, obl, tupOf] using hk)))⟩))
    · obtain ⟨sl4, h4, s4, n4⟩ : ∃ sl, vs 98 = .tuple #[.agg #[.int .i64 n, .int .i64 1, sl], .bool X, .int .i64 0] ∧ Owned M 0 w sl zs ∧ New w0.heap.size sl := hp 4 (by decide) (by decide)
      exact wpOp_of _ rfl rfl (op_move rfl h4 ⟨_, rfl, ⟨_, rfl, s4, n4⟩, Below.refl _ _, (fun h => absurd h (by decide)), (fun k hk => .inl ⟨4, by decide, by decide, by show k ∈ upkO 4 (vs 98); rw [h4]; exact hk⟩)⟩)
    · obtain ⟨sl5, h5, s5, n5⟩ : ∃ sl, vs 93 = .tuple #[.agg #[.int .i64 n, .int .i64 1, sl], .bool X, .int .i64 0] ∧ Owned M 0 w sl zs ∧ New w0.heap.size sl := hp 5 (by decide) (by decide)
      exact wpOp_of _ rfl rfl (op_extract rfl h5 rfl ⟨_, rfl, ⟨_, rfl, s5, n5⟩, Below.refl _ _, (fun h => absurd h (by decide)), (fun k hk => .inl ⟨5, by decide, by decide, by show k ∈ upkO 5 (vs 93); rw [h5]; exact hk⟩)⟩)
    · obtain ⟨sl5, h5, s5, n5⟩ : ∃ sl, vs 93 = .tuple #[.agg #[.int .i64 n, .int .i64 1, sl], .bool X, .int .i64 0] ∧ Owned M 0 w sl zs ∧ New w0.heap.size sl := hp 5 (by decide) (by decide)
      exact wpOp_of _ rfl rfl (op_extract rfl h5 rfl ⟨_, rfl, rfl, Below.refl _ _, (fun h => absurd h (by decide)), (fun k hk => by cases hk)⟩)
    · obtain ⟨sl5, h5, s5, n5⟩ : ∃ sl, vs 93 = .tuple #[.agg #[.int .i64 n, .int .i64 1, sl], .bool X, .int .i64 0] ∧ Owned M 0 w sl zs ∧ New w0.heap.size sl := hp 5 (by decide) (by decide)
      exact wpOp_of _ rfl rfl (op_extract rfl h5 rfl ⟨_, rfl, rfl, Below.refl _ _, (fun h => absurd h (by decide)), (fun k hk => by cases hk)⟩)
    · exact wpOp_of _ rfl rfl (op_alloc24 rfl ⟨_, rfl, ⟨_, rfl, hb.size, _, _, _, heap_new _ _⟩, (Below.refl _ _).alloc (Nat.le_refl _) _, (fun _ => rfl), (fun k hk => by cases hk)⟩)
    · exact absurd rfl his
    · have h7 : vs 100 = .bool X := hp 7 (by decide) (by decide)
      exact wpOp_of _ rfl rfl (op_assign rfl h7 ⟨_, rfl, rfl, Below.refl _ _, (fun h => absurd h (by decide)), (fun k hk => by cases hk)⟩)
    · have h8 : vs 101 = .int .i64 0 := hp 8 (by decide) (by decide)
      exact wpOp_of _ rfl rfl (op_assign rfl h8 ⟨_, rfl, rfl, Below.refl _ _, (fun h => absurd h (by decide)), (fun k hk => by cases hk)⟩)
  · intro vs w D hb hp hD hDW hoff
    obtain ⟨D', hD', _, x, y, z, hbl⟩ := hp 9 (by decide)
    have eD : D' = D := by
      have e : Value.pointer (some ⟨D', 0, none⟩) = .pointer (some ⟨D, 0, none⟩) := hD'.symm.trans hD
      injection e with h; injection h with h; injection h
    subst eD
    obtain ⟨sl, hf, hs, hnw⟩ : ∃ sl, vs 99 = .agg #[.int .i64 n, .int .i64 1, sl] ∧ Owned M 0 w sl zs ∧ New w0.heap.size sl := hp 6 (by decide)
    have hne : ∀ k, sl.ownBlock = some k → k ≠ D' := fun k hk => hoff 6 (by decide) k (by show k ∈ upkO 6 (vs 99); rw [hf]; simp [upkO, obl, hk])
    obtain ⟨so, scap, hsl⟩ := hs.slice
    subst hsl
    refine wpOp_of _ rfl rfl (op_store24 rfl rfl hD hf hbl ?_)
    refine ⟨undef, rfl, ⟨D', _, hD, hDW, put_mat hbl, ((hs.set' (a := ⟨D', 0, none⟩) hne _).set' (a := ⟨D', 1, none⟩) hne _).set' (a := ⟨D', 2, none⟩) hne _, hnw⟩, below_put hb hDW _ _ _, by simp [World.setCell], fun j v hj ho ht => ?_⟩
    exact upkT_set w0.heap.size D5 D6 n M jo jn jcap po pn pcap ts zs X D' 2 (by decide) _ j v _ ho (upkT_set w0.heap.size D5 D6 n M jo jn jcap po pn pcap ts zs X D' 1 (by decide) _ j v _ ho (upkT_set w0.heap.size D5 D6 n M jo jn jcap po pn pcap ts zs X D' 0 (by decide) _ j v _ ho ht))
  · rintro vs w hb hT ⟨D, sl, h1, h2, h3, h4, h5⟩
    exact hQ vs D sl w hb h1 (hT 11 (by decide) (by decide)) (hT 12 (by decide) (by decide)) h3 h2 h4 h5
end Go.Proofs.YtiniobcknmaigaaGreat

/-
  The statement of the document's Update that makes p2, in whatever order: what it leaves.
-/
namespace Go.Proofs.YtiniobcknmaigaaGreat
open Go.RowKit Go.Sort Qm
set_option linter.unusedVariables false
def uprOps : Array Oper := #[
    { dst := some 181, op := Op.load 24 (Operand.tmp 43), type := 24, pos := "ref.go:126", after := #[], guard := none },
    { dst := some 182, op := Op.load 24 (Operand.tmp 22), type := 24, pos := "ref.go:126", after := #[], guard := none },
    { dst := some 183, op := Op.call { callee := Callee.value (Operand.func 32), args := #[Operand.tmp 182], argTypes := #[24] }, type := 24, pos := "ref.go:126", after := #[{ on := 1, ground := Ground.data }], guard := none },
    { dst := some 184, op := Op.call { callee := Callee.value (Operand.func 24), args := #[Operand.tmp 181, Operand.tmp 183], argTypes := #[24, 24] }, type := 61, pos := "ref.go:126", after := #[{ on := 0, ground := Ground.data }, { on := 2, ground := Ground.data }, { on := 2, ground := Ground.chain }], guard := none },
    { dst := some 180, op := Op.move (Operand.tmp 184), type := 61, pos := "ref.go:126", after := #[{ on := 3, ground := Ground.data }], guard := none },
    { dst := some 185, op := Op.extract (Operand.tmp 180) 0, type := 24, pos := "ref.go:126", after := #[{ on := 4, ground := Ground.data }], guard := none },
    { dst := some 186, op := Op.extract (Operand.tmp 180) 1, type := 4, pos := "ref.go:126", after := #[{ on := 4, ground := Ground.data }, { on := 9, ground := Ground.gcOnly Departure.lateStores }], guard := none },
    { dst := some 187, op := Op.extract (Operand.tmp 180) 2, type := 3, pos := "ref.go:126", after := #[{ on := 4, ground := Ground.data }, { on := 10, ground := Ground.gcOnly Departure.lateStores }], guard := none },
    { dst := some 45, op := Op.alloc 24, type := 0, pos := "ref.go:126", after := #[], guard := none },
    { dst := none, op := Op.store 24 (Operand.tmp 45) (Operand.tmp 185), type := 0, pos := "ref.go:126", after := #[{ on := 8, ground := Ground.data }, { on := 5, ground := Ground.data }, { on := 3, ground := Ground.chain }, { on := 0, ground := Ground.phase }, { on := 1, ground := Ground.phase }, { on := 2, ground := Ground.phase }, { on := 3, ground := Ground.phase }, { on := 4, ground := Ground.phase }, { on := 5, ground := Ground.phase }, { on := 6, ground := Ground.textOnly Departure.lateStores }, { on := 7, ground := Ground.textOnly Departure.lateStores }, { on := 8, ground := Ground.phase }], guard := none },
    { dst := some 46, op := Op.assign (Operand.tmp 186), type := 4, pos := "ref.go:126", after := #[{ on := 6, ground := Ground.data }, { on := 9, ground := Ground.chain }, { on := 0, ground := Ground.phase }, { on := 1, ground := Ground.phase }, { on := 2, ground := Ground.phase }, { on := 3, ground := Ground.phase }, { on := 4, ground := Ground.phase }, { on := 5, ground := Ground.phase }, { on := 6, ground := Ground.phase }, { on := 7, ground := Ground.textOnly Departure.lateStores }, { on := 8, ground := Ground.phase }, { on := 9, ground := Ground.phase }], guard := none },
    { dst := some 47, op := Op.assign (Operand.tmp 187), type := 3, pos := "ref.go:126", after := #[{ on := 7, ground := Ground.data }, { on := 10, ground := Ground.chain }, { on := 0, ground := Ground.phase }, { on := 1, ground := Ground.phase }, { on := 2, ground := Ground.phase }, { on := 3, ground := Ground.phase }, { on := 4, ground := Ground.phase }, { on := 5, ground := Ground.phase }, { on := 6, ground := Ground.phase }, { on := 7, ground := Ground.phase }, { on := 8, ground := Ground.phase }, { on := 9, ground := Ground.phase }, { on := 10, ground := Ground.phase }], guard := none }]
def uprDst (i : Nat) : Nat := [181, 182, 183, 184, 180, 185, 186, 187, 45, 1000, 46, 47].getD i 0
def uprFr (D22 : Nat) (D43 : Nat) (n : Nat) (ko : Option Addr) (kn : Nat) (kcap : Nat) (ro : Option Addr) (rn : Nat) (rcap : Nat) (ts : List Int) (zs : List Int) (X : Bool) (u0 u1 u2 u3 u4 u5 u6 u7 u8 u9 u10 u11 u12 u13 u14 u15 u16 u17 u18 u19 u20 u21 u23 u24 u25 u26 u27 u28 u29 u30 u31 u32 u33 u34 u35 u36 u37 u38 u39 u40 u41 u42 u44 u48 u49 u50 u51 u52 u53 u54 u55 u56 u57 u58 u59 u60 u61 u62 u63 u64 u65 u66 u67 u68 u69 u70 u71 u72 u73 u74 u75 u76 u77 u78 u79 u80 u81 u82 u83 u84 u85 u86 u87 u88 u89 u90 u91 u92 u93 u94 u95 u96 u97 u98 u99 u100 u101 u102 u103 u104 u105 u106 u107 u108 u109 u110 u111 u112 u113 u114 u115 u116 u117 u118 u119 u120 u121 u122 u123 u124 u125 u126 u127 u128 u129 u130 u131 u132 u133 u134 u135 u136 u137 u138 u139 u140 u141 u142 u143 u144 u145 u146 u147 u148 u149 u150 u151 u152 u153 u154 u155 u156 u157 u158 u159 u160 u161 u162 u163 u164 u165 u166 u167 u168 u169 u170 u171 u172 u173 u174 u175 u176 u177 u178 u179 u188 u189 u190 u191 u192 u193 u194 u195 u196 u197 u198 u199 u200 u201 u202 u203 u204 u205 u206 u207 u208 u209 u210 u211 u212 u213 u214 u215 u216 u217 u218 u219 u220 u221 u222 u223 u224 : Value) (vs : Nat → Value) : Act := ⟨#[u0, u1, u2, u3, u4, u5, u6, u7, u8, u9, u10, u11, u12, u13, u14, u15, u16, u17, u18, u19, u20, u21, .pointer (some ⟨D22, 0, none⟩), u23, u24, u25, u26, u27, u28, u29, u30, u31, u32, u33, u34, u35, u36, u37, u38, u39, u40, u41, u42, .pointer (some ⟨D43, 0, none⟩), u44, vs 45, vs 46, vs 47, u48, u49, u50, u51, u52, u53, u54, u55, u56, u57, u58, u59, u60, u61, u62, u63, u64, u65, u66, u67, u68, u69, u70, u71, u72, u73, u74, u75, u76, u77, u78, u79, u80, u81, u82, u83, u84, u85, u86, u87, u88, u89, u90, u91, u92, u93, u94, u95, u96, u97, u98, u99, u100, u101, u102, u103, u104, u105, u106, u107, u108, u109, u110, u111, u112, u113, u114, u115, u116, u117, u118, u119, u120, u121, u122, u123, u124, u125, u126, u127, u128, u129, u130, u131, u132, u133, u134, u135, u136, u137, u138, u139, u140, u141, u142, u143, u144, u145, u146, u147, u148, u149, u150, u151, u152, u153, u154, u155, u156, u157, u158, u159, u160, u161, u162, u163, u164, u165, u166, u167, u168, u169, u170, u171, u172, u173, u174, u175, u176, u177, u178, u179, vs 180, vs 181, vs 182, vs 183, vs 184, vs 185, vs 186, vs 187, u188, u189, u190, u191, u192, u193, u194, u195, u196, u197, u198, u199, u200, u201, u202, u203, u204, u205, u206, u207, u208, u209, u210, u211, u212, u213, u214, u215, u216, u217, u218, u219, u220, u221, u222, u223, u224], []⟩
def uprT (W : Nat) (D22 : Nat) (D43 : Nat) (n : Nat) (ko : Option Addr) (kn : Nat) (kcap : Nat) (ro : Option Addr) (rn : Nat) (rcap : Nat) (ts : List Int) (zs : List Int) (X : Bool) : Nat → Value → World → Prop
  | 8, v, w => ∃ D, v = .pointer (some ⟨D, 0, none⟩) ∧ W ≤ D ∧ ∃ x y z, w.heap[D]? = some (.cells #[x, y, z] 24 (0, 0))
  | 2, v, w => ∃ sl, v = .agg #[.int .i64 1, .int .i64 n, sl] ∧ Sees w sl ts ∧ New W sl
  | 3, v, w => ∃ sl, v = .tuple #[.agg #[.int .i64 n, .int .i64 n, sl], .bool X, .int .i64 0] ∧ Sees w sl zs ∧ New W sl
  | 4, v, w => ∃ sl, v = .tuple #[.agg #[.int .i64 n, .int .i64 n, sl], .bool X, .int .i64 0] ∧ Sees w sl zs ∧ New W sl
  | 5, v, w => ∃ sl, v = .agg #[.int .i64 n, .int .i64 n, sl] ∧ Sees w sl zs ∧ New W sl
  | i, v, _ => v = ([.agg #[.int .i64 n, .int .i64 1, .slice ro rn rcap], .agg #[.int .i64 n, .int .i64 1, .slice ko kn kcap], undef, undef, undef, undef, .bool X, .int .i64 0, undef, undef, .bool X, .int .i64 0] : List Value).getD i undef
def uprO : Nat → Value → List Nat
  | 2, v => obl v
  | 3, v => obl (tupOf v)
  | 4, v => obl (tupOf v)
  | 5, v => obl v
  | _, _ => []
theorem uprT_mono (W : Nat) (D22 : Nat) (D43 : Nat) (n : Nat) (ko : Option Addr) (kn : Nat) (kcap : Nat) (ro : Option Addr) (rn : Nat) (rcap : Nat) (ts : List Int) (zs : List Int) (X : Bool) : ∀ i v w w', uprT W D22 D43 n ko kn kcap ro rn rcap ts zs X i v w → Below w.heap.size w w' → uprT W D22 D43 n ko kn kcap ro rn rcap ts zs X i v w' := by
  intro i v w w' h hb
  unfold uprT at *
  split
  · obtain ⟨D, h1, h2, x, y, z, h3⟩ := h; exact ⟨D, h1, h2, x, y, z, keep hb h3⟩
  · obtain ⟨sl, h1, h2, h3⟩ := h; exact ⟨sl, h1, h2.below hb, h3⟩
  · obtain ⟨sl, h1, h2, h3⟩ := h; exact ⟨sl, h1, h2.below hb, h3⟩
  · obtain ⟨sl, h1, h2, h3⟩ := h; exact ⟨sl, h1, h2.below hb, h3⟩
  · obtain ⟨sl, h1, h2, h3⟩ := h; exact ⟨sl, h1, h2.below hb, h3⟩
  · simp_all
theorem uprT_set (W : Nat) (D22 : Nat) (D43 : Nat) (n : Nat) (ko : Option Addr) (kn : Nat) (kcap : Nat) (ro : Option Addr) (rn : Nat) (rcap : Nat) (ts : List Int) (zs : List Int) (X : Bool) (C : Nat) (k : Nat) (hk : k < 3) (x : Value) : ∀ i v w, (∀ k ∈ uprO i v, k ≠ C) → uprT W D22 D43 n ko kn kcap ro rn rcap ts zs X i v w → uprT W D22 D43 n ko kn kcap ro rn rcap ts zs X i v (w.setCell ⟨C, k, none⟩ x) := by
  intro i v w ho h
  unfold uprT at *
  unfold uprO at ho
  split
  · obtain ⟨D, h1, h2, h3⟩ := h; exact ⟨D, h1, h2, three_set hk h3⟩
  · obtain ⟨sl, h1, h2, h3⟩ := h; subst h1; exact ⟨sl, rfl, h2.set' (a := ⟨C, k, none⟩) (fun b hb => ho b (by simp [obl, hb])) x, h3⟩
  · obtain ⟨sl, h1, h2, h3⟩ := h; subst h1; exact ⟨sl, rfl, h2.set' (a := ⟨C, k, none⟩) (fun b hb => ho b (by simp [obl, tupOf, hb])) x, h3⟩
  · obtain ⟨sl, h1, h2, h3⟩ := h; subst h1; exact ⟨sl, rfl, h2.set' (a := ⟨C, k, none⟩) (fun b hb => ho b (by simp [obl, tupOf, hb])) x, h3⟩
  · obtain ⟨sl, h1, h2, h3⟩ := h; subst h1; exact ⟨sl, rfl, h2.set' (a := ⟨C, k, none⟩) (fun b hb => ho b (by simp [obl, hb])) x, h3⟩
  · simp_all
theorem uprO_lt (W : Nat) (D22 : Nat) (D43 : Nat) (n : Nat) (ko : Option Addr) (kn : Nat) (kcap : Nat) (ro : Option Addr) (rn : Nat) (rcap : Nat) (ts : List Int) (zs : List Int) (X : Bool) (z_ts : 0 < ts.length) (z_zs : 0 < zs.length) : ∀ i v w, uprT W D22 D43 n ko kn kcap ro rn rcap ts zs X i v w → ∀ k ∈ uprO i v, k < w.heap.size := by
  intro i v w h k hk
  unfold uprT at h
  unfold uprO at hk
  split at h
  · cases hk
  · obtain ⟨sl, h1, h2, _⟩ := h; subst h1; exact h2.lt z_ts k (by simpa [obl] using hk)
  · obtain ⟨sl, h1, h2, _⟩ := h; subst h1; exact h2.lt z_zs k (by simpa [obl, tupOf] using hk)
  · obtain ⟨sl, h1, h2, _⟩ := h; subst h1; exact h2.lt z_zs k (by simpa [obl, tupOf] using hk)
  · obtain ⟨sl, h1, h2, _⟩ := h; subst h1; exact h2.lt z_zs k (by simpa [obl] using hk)
  · simp_all
set_option maxRecDepth 40000 in
set_option maxHeartbeats 4000000 in
theorem upr_region {Q : Exit → Act → World → Prop} {w0 : World} {D22 : Nat} {D43 : Nat} {n : Nat} {ko : Option Addr} {kn : Nat} {kcap : Nat} {ro : Option Addr} {rn : Nat} {rcap : Nat} {ts : List Int} {zs : List Int} {X : Bool} {u0 u1 u2 u3 u4 u5 u6 u7 u8 u9 u10 u11 u12 u13 u14 u15 u16 u17 u18 u19 u20 u21 u23 u24 u25 u26 u27 u28 u29 u30 u31 u32 u33 u34 u35 u36 u37 u38 u39 u40 u41 u42 u44 u48 u49 u50 u51 u52 u53 u54 u55 u56 u57 u58 u59 u60 u61 u62 u63 u64 u65 u66 u67 u68 u69 u70 u71 u72 u73 u74 u75 u76 u77 u78 u79 u80 u81 u82 u83 u84 u85 u86 u87 u88 u89 u90 u91 u92 u93 u94 u95 u96 u97 u98 u99 u100 u101 u102 u103 u104 u105 u106 u107 u108 u109 u110 u111 u112 u113 u114 u115 u116 u117 u118 u119 u120 u121 u122 u123 u124 u125 u126 u127 u128 u129 u130 u131 u132 u133 u134 u135 u136 u137 u138 u139 u140 u141 u142 u143 u144 u145 u146 u147 u148 u149 u150 u151 u152 u153 u154 u155 u156 u157 u158 u159 u160 u161 u162 u163 u164 u165 u166 u167 u168 u169 u170 u171 u172 u173 u174 u175 u176 u177 u178 u179 u188 u189 u190 u191 u192 u193 u194 u195 u196 u197 u198 u199 u200 u201 u202 u203 u204 u205 u206 u207 u208 u209 u210 u211 u212 u213 u214 u215 u216 u217 u218 u219 u220 u221 u222 u223 u224 : Value} (z_ts : 0 < ts.length) (z_zs : 0 < zs.length)
    (cK : ∀ w, Below w0.heap.size w0 w → w.cell? ⟨D22, 0, none⟩ = some (.int .i64 n) ∧ w.cell? ⟨D22, 1, none⟩ = some (.int .i64 1) ∧ w.cell? ⟨D22, 2, none⟩ = some (.slice ko kn kcap))
    (cR : ∀ w, Below w0.heap.size w0 w → w.cell? ⟨D43, 0, none⟩ = some (.int .i64 n) ∧ w.cell? ⟨D43, 1, none⟩ = some (.int .i64 1) ∧ w.cell? ⟨D43, 2, none⟩ = some (.slice ro rn rcap))
    (kT : ∀ w, Below w0.heap.size w0 w → Calls Tryz.prog 32 #[.agg #[.int .i64 n, .int .i64 1, .slice ko kn kcap]] w fun e b => ∃ v, e = .returned (.agg #[.int .i64 1, .int .i64 n, v]) ∧ Sees b v ts ∧ New w.heap.size v ∧ Below w.heap.size w b)
    (kM : ∀ w, Below w0.heap.size w0 w → ∀ s, Sees w s ts → Calls Tryz.prog 24 #[.agg #[.int .i64 n, .int .i64 1, .slice ro rn rcap], .agg #[.int .i64 1, .int .i64 n, s]] w fun e b => ∃ v, e = .returned (.tuple #[.agg #[.int .i64 n, .int .i64 n, v], .bool X, .int .i64 0]) ∧ Sees b v zs ∧ New w.heap.size v ∧ Below w.heap.size w b)
    (hQ : ∀ vs D sl w, Below w0.heap.size w0 w → vs 45 = .pointer (some ⟨D, 0, none⟩) → vs 46 = .bool X → vs 47 = .int .i64 0 → w.heap[D]? = some (.cells #[.int .i64 n, .int .i64 n, sl] 24 (0, 0)) → w0.heap.size ≤ D → Sees w sl zs → New w0.heap.size sl → Q .normal (uprFr D22 D43 n ko kn kcap ro rn rcap ts zs X u0 u1 u2 u3 u4 u5 u6 u7 u8 u9 u10 u11 u12 u13 u14 u15 u16 u17 u18 u19 u20 u21 u23 u24 u25 u26 u27 u28 u29 u30 u31 u32 u33 u34 u35 u36 u37 u38 u39 u40 u41 u42 u44 u48 u49 u50 u51 u52 u53 u54 u55 u56 u57 u58 u59 u60 u61 u62 u63 u64 u65 u66 u67 u68 u69 u70 u71 u72 u73 u74 u75 u76 u77 u78 u79 u80 u81 u82 u83 u84 u85 u86 u87 u88 u89 u90 u91 u92 u93 u94 u95 u96 u97 u98 u99 u100 u101 u102 u103 u104 u105 u106 u107 u108 u109 u110 u111 u112 u113 u114 u115 u116 u117 u118 u119 u120 u121 u122 u123 u124 u125 u126 u127 u128 u129 u130 u131 u132 u133 u134 u135 u136 u137 u138 u139 u140 u141 u142 u143 u144 u145 u146 u147 u148 u149 u150 u151 u152 u153 u154 u155 u156 u157 u158 u159 u160 u161 u162 u163 u164 u165 u166 u167 u168 u169 u170 u171 u172 u173 u174 u175 u176 u177 u178 u179 u188 u189 u190 u191 u192 u193 u194 u195 u196 u197 u198 u199 u200 u201 u202 u203 u204 u205 u206 u207 u208 u209 u210 u211 u212 u213 u214 u215 u216 u217 u218 u219 u220 u221 u222 u223 u224 vs) w) :
    (Code.region 24 uprOps true).wp Tryz.prog Q (uprFr D22 D43 n ko kn kcap ro rn rcap ts zs X u0 u1 u2 u3 u4 u5 u6 u7 u8 u9 u10 u11 u12 u13 u14 u15 u16 u17 u18 u19 u20 u21 u23 u24 u25 u26 u27 u28 u29 u30 u31 u32 u33 u34 u35 u36 u37 u38 u39 u40 u41 u42 u44 u48 u49 u50 u51 u52 u53 u54 u55 u56 u57 u58 u59 u60 u61 u62 u63 u64 u65 u66 u67 u68 u69 u70 u71 u72 u73 u74 u75 u76 u77 u78 u79 u80 u81 u82 u83 u84 u85 u86 u87 u88 u89 u90 u91 u92 u93 u94 u95 u96 u97 u98 u99 u100 u101 u102 u103 u104 u105 u106 u107 u108 u109 u110 u111 u112 u113 u114 u115 u116 u117 u118 u119 u120 u121 u122 u123 u124 u125 u126 u127 u128 u129 u130 u131 u132 u133 u134 u135 u136 u137 u138 u139 u140 u141 u142 u143 u144 u145 u146 u147 u148 u149 u150 u151 u152 u153 u154 u155 u156 u157 u158 u159 u160 u161 u162 u163 u164 u165 u166 u167 u168 u169 u170 u171 u172 u173 u174 u175 u176 u177 u178 u179 u188 u189 u190 u191 u192 u193 u194 u195 u196 u197 u198 u199 u200 u201 u202 u203 u204 u205 u206 u207 u208 u209 u210 u211 u212 u213 u214 u215 u216 u217 u218 u219 u220 u221 u222 u223 u224 (fun _ => undef)) w0 := by
  refine wp_region_str (by kernel_rfl) (by decide) uprDst (by decide) (uprFr D22 D43 n ko kn kcap ro rn rcap ts zs X u0 u1 u2 u3 u4 u5 u6 u7 u8 u9 u10 u11 u12 u13 u14 u15 u16 u17 u18 u19 u20 u21 u23 u24 u25 u26 u27 u28 u29 u30 u31 u32 u33 u34 u35 u36 u37 u38 u39 u40 u41 u42 u44 u48 u49 u50 u51 u52 u53 u54 u55 u56 u57 u58 u59 u60 u61 u62 u63 u64 u65 u66 u67 u68 u69 u70 u71 u72 u73 u74 u75 u76 u77 u78 u79 u80 u81 u82 u83 u84 u85 u86 u87 u88 u89 u90 u91 u92 u93 u94 u95 u96 u97 u98 u99 u100 u101 u102 u103 u104 u105 u106 u107 u108 u109 u110 u111 u112 u113 u114 u115 u116 u117 u118 u119 u120 u121 u122 u123 u124 u125 u126 u127 u128 u129 u130 u131 u132 u133 u134 u135 u136 u137 u138 u139 u140 u141 u142 u143 u144 u145 u146 u147 u148 u149 u150 u151 u152 u153 u154 u155 u156 u157 u158 u159 u160 u161 u162 u163 u164 u165 u166 u167 u168 u169 u170 u171 u172 u173 u174 u175 u176 u177 u178 u179 u188 u189 u190 u191 u192 u193 u194 u195 u196 u197 u198 u199 u200 u201 u202 u203 u204 u205 u206 u207 u208 u209 u210 u211 u212 u213 u214 u215 u216 u217 u218 u219 u220 u221 u222 u223 u224) (uprT w0.heap.size D22 D43 n ko kn kcap ro rn rcap ts zs X) (uprT_mono w0.heap.size D22 D43 n ko kn kcap ro rn rcap ts zs X) uprO (uprO_lt w0.heap.size D22 D43 n ko kn kcap ro rn rcap ts zs X z_ts z_zs) (fun _ => undef) 9 8
    (fun v w => ∃ D sl, v = .pointer (some ⟨D, 0, none⟩) ∧ w0.heap.size ≤ D ∧ w.heap[D]? = some (.cells #[.int .i64 n, .int .i64 n, sl] 24 (0, 0)) ∧ Sees w sl zs ∧ New w0.heap.size sl) (fun v w w' ⟨D, sl, h1, h2, h3, h4, h5⟩ hb => ⟨D, sl, h1, h2, keep hb h3, h4.below hb, h5⟩) (by decide) (by decide) (fun _ => rfl)
    (fun v w ⟨D, h1, h2, x, y, z, h3⟩ => ⟨D, h1, h2, lt_of_block h3⟩) ?_ ?_ ?_
  · intro i hi his vs w hb hp hv
    have hi' : i < 12 := hi
    rcases (by omega : i = 0 ∨ i = 1 ∨ i = 2 ∨ i = 3 ∨ i = 4 ∨ i = 5 ∨ i = 6 ∨ i = 7 ∨ i = 8 ∨ i = 9 ∨ i = 10 ∨ i = 11) with rfl | rfl | rfl | rfl | rfl | rfl | rfl | rfl | rfl | rfl | rfl | rfl
    · exact wpOp_of _ rfl rfl (op_loadM rfl rfl (cR w hb).1 (cR w hb).2.1 (cR w hb).2.2 ⟨_, rfl, rfl, Below.refl _ _, (fun h => absurd h (by decide)), (fun k hk => by cases hk)⟩)
    · exact wpOp_of _ rfl rfl (op_loadM rfl rfl (cK w hb).1 (cK w hb).2.1 (cK w hb).2.2 ⟨_, rfl, rfl, Below.refl _ _, (fun h => absurd h (by decide)), (fun k hk => by cases hk)⟩)
    · have h1 : vs 182 = .agg #[.int .i64 n, .int .i64 1, .slice ko kn kcap] := hp 1 (by decide) (by decide)
      exact wpOp_of _ rfl rfl (op_call1 entersTr rfl h1 (kT w hb) (by rintro e b ⟨v, rfl, s', n', b'⟩; exact ⟨_, rfl, _, rfl, ⟨_, rfl, s', n'.mono hb.size⟩, b', (fun h => absurd h (by decide)), (fun k hk => .inr (n' k (by simpa [uprO, obl] using hk)))⟩))
    · have h0 : vs 181 = .agg #[.int .i64 n, .int .i64 1, .slice ro rn rcap] := hp 0 (by decide) (by decide)
      obtain ⟨sl2, h2, s2, n2⟩ : ∃ sl, vs 183 = .agg #[.int .i64 1, .int .i64 n, sl] ∧ Sees w sl ts ∧ New w0.heap.size sl := hp 2 (by decide) (by decide)
      exact wpOp_of _ rfl rfl (op_call2 enters33 rfl h0 h2 (kM w hb _ s2) (by rintro e b ⟨v, rfl, s', n', b'⟩; exact ⟨_, rfl, _, rfl, ⟨_, rfl, s', n'.mono hb.size⟩, b', (fun h => absurd h (by decide)), (fun k hk => .inr (n' k (by simpa [uprO, obl, tupOf] using hk)))⟩))
    · obtain ⟨sl3, h3, s3, n3⟩ : ∃ sl, vs 184 = .tuple #[.agg #[.int .i64 n, .int .i64 n, sl], .bool X, .int .i64 0] ∧ Sees w sl zs ∧ New w0.heap.size sl := hp 3 (by decide) (by decide)
      exact wpOp_of _ rfl rfl (op_move rfl h3 ⟨_, rfl, ⟨_, rfl, s3, n3⟩, Below.refl _ _, (fun h => absurd h (by decide)), (fun k hk => .inl ⟨3, by decide, by decide, by show k ∈ uprO 3 (vs 184); rw [h3]; exact hk⟩)⟩)
    · obtain ⟨sl4, h4, s4, n4⟩ : ∃ sl, vs 180 = .tuple #[.agg #[.int .i64 n, .int .i64 n, sl], .bool X, .int .i64 0] ∧ Sees w sl zs ∧ New w0.heap.size sl := hp 4 (by decide) (by decide)
      exact wpOp_of _ rfl rfl (op_extract rfl h4 rfl ⟨_, rfl, ⟨_, rfl, s4, n4⟩, Below.refl _ _, (fun h => absurd h (by decide)), (fun k hk => .inl ⟨4, by decide, by decide, by show k ∈ uprO 4 (vs 180); rw [h4]; exact hk⟩)⟩)
    · obtain ⟨sl4, h4, s4, n4⟩ : ∃ sl, vs 180 = .tuple #[.agg #[.int .i64 n, .int .i64 n, sl], .bool X, .int .i64 0] ∧ Sees w sl zs ∧ New w0.heap.size sl := hp 4 (by decide) (by decide)
      exact wpOp_of _ rfl rfl (op_extract rfl h4 rfl ⟨_, rfl, rfl, Below.refl _ _, (fun h => absurd h (by decide)), (fun k hk => by cases hk)⟩)
    · obtain ⟨sl4, h4, s4, n4⟩ : ∃ sl, vs 180 = .tuple #[.agg #[.int .i64 n, .int .i64 n, sl], .bool X, .int .i64 0] ∧ Sees w sl zs ∧ New w0.heap.size sl := hp 4 (by decide) (by decide)
      exact wpOp_of _ rfl rfl (op_extract rfl h4 rfl ⟨_, rfl, rfl, Below.refl _ _, (fun h => absurd h (by decide)), (fun k hk => by cases hk)⟩)
    · exact wpOp_of _ rfl rfl (op_alloc24 rfl ⟨_, rfl, ⟨_, rfl, hb.size, _, _, _, heap_new _ _⟩, (Below.refl _ _).alloc (Nat.le_refl _) _, (fun _ => rfl), (fun k hk => by cases hk)⟩)
    · exact absurd rfl his
    · have h6 : vs 186 = .bool X := hp 6 (by decide) (by decide)
      exact wpOp_of _ rfl rfl (op_assign rfl h6 ⟨_, rfl, rfl, Below.refl _ _, (fun h => absurd h (by decide)), (fun k hk => by cases hk)⟩)
    · have h7 : vs 187 = .int .i64 0 := hp 7 (by decide) (by decide)
      exact wpOp_of _ rfl rfl (op_assign rfl h7 ⟨_, rfl, rfl, Below.refl _ _, (fun h => absurd h (by decide)), (fun k hk => by cases hk)⟩)
  · intro vs w D hb hp hD hDW hoff
    obtain ⟨D', hD', _, x, y, z, hbl⟩ := hp 8 (by decide)
    have eD : D' = D := by
      have e : Value.pointer (some ⟨D', 0, none⟩) = .pointer (some ⟨D, 0, none⟩) := hD'.symm.trans hD
      injection e with h; injection h with h; injection h
    subst eD
    obtain ⟨sl, hf, hs, hnw⟩ : ∃ sl, vs 185 = .agg #[.int .i64 n, .int .i64 n, sl] ∧ Sees w sl zs ∧ New w0.heap.size sl := hp 5 (by decide)
    have hne : ∀ k, sl.ownBlock = some k → k ≠ D' := fun k hk => hoff 5 (by decide) k (by show k ∈ uprO 5 (vs 185); rw [hf]; simp [uprO, obl, hk])
    obtain ⟨so, scap, hsl⟩ := hs.slice
    subst hsl
    refine wpOp_of _ rfl rfl (op_store24 rfl rfl hD hf hbl ?_)
    refine ⟨undef, rfl, ⟨D', _, hD, hDW, put_mat hbl, ((hs.set' (a := ⟨D', 0, none⟩) hne _).set' (a := ⟨D', 1, none⟩) hne _).set' (a := ⟨D', 2, none⟩) hne _, hnw⟩, below_put hb hDW _ _ _, by simp [World.setCell], fun j v hj ho ht => ?_⟩
    exact uprT_set w0.heap.size D22 D43 n ko kn kcap ro rn rcap ts zs X D' 2 (by decide) _ j v _ ho (uprT_set w0.heap.size D22 D43 n ko kn kcap ro rn rcap ts zs X D' 1 (by decide) _ j v _ ho (uprT_set w0.heap.size D22 D43 n ko kn kcap ro rn rcap ts zs X D' 0 (by decide) _ j v _ ho ht))
  · rintro vs w hb hT ⟨D, sl, h1, h2, h3, h4, h5⟩
    exact hQ vs D sl w hb h1 (hT 10 (by decide) (by decide)) (hT 11 (by decide) (by decide)) h3 h2 h4 h5
end Go.Proofs.YtiniobcknmaigaaGreat
