/-
  'n, y, g := mat.Mul(mat.Trans(b), mat.Trans(a))' of MatTurns: what it leaves, whatever the order.
-/
import Derived.Test.YteohdhmimpajmaaTuR
namespace Go.Proofs.Yteohdhmimpajmaa
open Go.RowKit Go.Sort Qm

def tsOps : Array Oper := #[
    { dst := some 73, op := Op.load 24 (Operand.tmp 3), type := 24, pos := "law.go:84", after := #[], guard := none },
    { dst := some 74, op := Op.call { callee := Callee.value (Operand.func 29), args := #[Operand.tmp 73], argTypes := #[24] }, type := 24, pos := "law.go:84", after := #[{ on := 0, ground := Ground.data }], guard := none },
    { dst := some 75, op := Op.load 24 (Operand.tmp 2), type := 24, pos := "law.go:84", after := #[], guard := none },
    { dst := some 76, op := Op.call { callee := Callee.value (Operand.func 29), args := #[Operand.tmp 75], argTypes := #[24] }, type := 24, pos := "law.go:84", after := #[{ on := 2, ground := Ground.data }, { on := 1, ground := Ground.chain }], guard := none },
    { dst := some 77, op := Op.call { callee := Callee.value (Operand.func 16), args := #[Operand.tmp 74, Operand.tmp 76], argTypes := #[24, 24] }, type := 28, pos := "law.go:84", after := #[{ on := 1, ground := Ground.data }, { on := 3, ground := Ground.data }, { on := 3, ground := Ground.chain }], guard := none },
    { dst := some 72, op := Op.move (Operand.tmp 77), type := 28, pos := "law.go:84", after := #[{ on := 4, ground := Ground.data }], guard := none },
    { dst := some 78, op := Op.extract (Operand.tmp 72) 0, type := 24, pos := "law.go:84", after := #[{ on := 5, ground := Ground.data }], guard := none },
    { dst := some 79, op := Op.extract (Operand.tmp 72) 1, type := 4, pos := "law.go:84", after := #[{ on := 5, ground := Ground.data }, { on := 10, ground := Ground.gcOnly Departure.lateStores }], guard := none },
    { dst := some 80, op := Op.extract (Operand.tmp 72) 2, type := 27, pos := "law.go:84", after := #[{ on := 5, ground := Ground.data }, { on := 11, ground := Ground.gcOnly Departure.lateStores }], guard := none },
    { dst := some 14, op := Op.alloc 24, type := 0, pos := "law.go:84", after := #[], guard := none },
    { dst := none, op := Op.store 24 (Operand.tmp 14) (Operand.tmp 78), type := 0, pos := "law.go:84", after := #[{ on := 9, ground := Ground.data }, { on := 6, ground := Ground.data }, { on := 4, ground := Ground.chain }, { on := 0, ground := Ground.phase }, { on := 1, ground := Ground.phase }, { on := 2, ground := Ground.phase }, { on := 3, ground := Ground.phase }, { on := 4, ground := Ground.phase }, { on := 5, ground := Ground.phase }, { on := 6, ground := Ground.phase }, { on := 7, ground := Ground.textOnly Departure.lateStores }, { on := 8, ground := Ground.textOnly Departure.lateStores }, { on := 9, ground := Ground.phase }], guard := none },
    { dst := some 15, op := Op.assign (Operand.tmp 79), type := 4, pos := "law.go:84", after := #[{ on := 7, ground := Ground.data }, { on := 10, ground := Ground.chain }, { on := 0, ground := Ground.phase }, { on := 1, ground := Ground.phase }, { on := 2, ground := Ground.phase }, { on := 3, ground := Ground.phase }, { on := 4, ground := Ground.phase }, { on := 5, ground := Ground.phase }, { on := 6, ground := Ground.phase }, { on := 7, ground := Ground.phase }, { on := 8, ground := Ground.textOnly Departure.lateStores }, { on := 9, ground := Ground.phase }, { on := 10, ground := Ground.phase }], guard := none },
    { dst := some 16, op := Op.assign (Operand.tmp 80), type := 27, pos := "law.go:84", after := #[{ on := 8, ground := Ground.data }, { on := 11, ground := Ground.chain }, { on := 0, ground := Ground.phase }, { on := 1, ground := Ground.phase }, { on := 2, ground := Ground.phase }, { on := 3, ground := Ground.phase }, { on := 4, ground := Ground.phase }, { on := 5, ground := Ground.phase }, { on := 6, ground := Ground.phase }, { on := 7, ground := Ground.phase }, { on := 8, ground := Ground.phase }, { on := 9, ground := Ground.phase }, { on := 10, ground := Ground.phase }, { on := 11, ground := Ground.phase }], guard := none }]
def tsFr (D2 D3 : Nat) (u0 u1 u4 u5 u6 u7 u8 u9 u10 u11 u12 u13 u17 u18 u19 u20 u21 u22 u23 u24 u25 u26 u27 u28 u29 u30 u31 u32 u33 u34 u35 u36 u37 u38 u39 u40 u41 u42 u43 u44 u45 u46 u47 u48 u49 u50 u51 u52 u53 u54 u55 u56 u57 u58 u59 u60 u61 u62 u63 u64 u65 u66 u67 u68 u69 u70 u71 u81 u82 u83 u84 u85 u86 u87 u88 u89 u90 u91 u92 u93 u94 u95 u96 u97 u98 u99 u100 u101 u102 u103 u104 : Value) (v14 v15 v16 v72 v73 v74 v75 v76 v77 v78 v79 v80 : Value) : Act := ⟨#[u0, u1, .pointer (some ⟨D2, 0, none⟩), .pointer (some ⟨D3, 0, none⟩), u4, u5, u6, u7, u8, u9, u10, u11, u12, u13, v14, v15, v16, u17, u18, u19, u20, u21, u22, u23, u24, u25, u26, u27, u28, u29, u30, u31, u32, u33, u34, u35, u36, u37, u38, u39, u40, u41, u42, u43, u44, u45, u46, u47, u48, u49, u50, u51, u52, u53, u54, u55, u56, u57, u58, u59, u60, u61, u62, u63, u64, u65, u66, u67, u68, u69, u70, u71, v72, v73, v74, v75, v76, v77, v78, v79, v80, u81, u82, u83, u84, u85, u86, u87, u88, u89, u90, u91, u92, u93, u94, u95, u96, u97, u98, u99, u100, u101, u102, u103, u104], []⟩
def TsInv (D2 D3 : Nat) (u0 u1 u4 u5 u6 u7 u8 u9 u10 u11 u12 u13 u17 u18 u19 u20 u21 u22 u23 u24 u25 u26 u27 u28 u29 u30 u31 u32 u33 u34 u35 u36 u37 u38 u39 u40 u41 u42 u43 u44 u45 u46 u47 u48 u49 u50 u51 u52 u53 u54 u55 u56 u57 u58 u59 u60 u61 u62 u63 u64 u65 u66 u67 u68 u69 u70 u71 u81 u82 u83 u84 u85 u86 u87 u88 u89 u90 u91 u92 u93 u94 u95 u96 u97 u98 u99 u100 u101 u102 u103 u104 : Value) (W : World) (ra ca rb cb : Int) (ao bo : Option Addr) (n cap m bcap : Nat) (X : Bool) (ts bs zs : List Int) (L : Nat → Bool) (a : Act) (y : World) : Prop :=
  ∃ (v14 v15 v16 v72 v73 v74 v75 v76 v77 v78 v79 v80 p1 p2 sl : Value) (D : Nat), a = tsFr D2 D3 u0 u1 u4 u5 u6 u7 u8 u9 u10 u11 u12 u13 u17 u18 u19 u20 u21 u22 u23 u24 u25 u26 u27 u28 u29 u30 u31 u32 u33 u34 u35 u36 u37 u38 u39 u40 u41 u42 u43 u44 u45 u46 u47 u48 u49 u50 u51 u52 u53 u54 u55 u56 u57 u58 u59 u60 u61 u62 u63 u64 u65 u66 u67 u68 u69 u70 u71 u81 u82 u83 u84 u85 u86 u87 u88 u89 u90 u91 u92 u93 u94 u95 u96 u97 u98 u99 u100 u101 u102 u103 u104 v14 v15 v16 v72 v73 v74 v75 v76 v77 v78 v79 v80 ∧ Below W.heap.size W y ∧ (L 0 = true → v73 = .agg #[.int .i64 rb, .int .i64 cb, .slice bo m bcap]) ∧ (L 2 = true → v75 = .agg #[.int .i64 ra, .int .i64 ca, .slice ao n cap]) ∧
    (L 1 = true → L 10 = false → v74 = .agg #[.int .i64 cb, .int .i64 rb, p1] ∧ Sees y p1 bs) ∧ (L 3 = true → L 10 = false → v76 = .agg #[.int .i64 ca, .int .i64 ra, p2] ∧ Sees y p2 ts) ∧
    (L 4 = true → v77 = .tuple #[.agg #[.int .i64 cb, .int .i64 ra, sl], .bool X, .int .i64 0] ∧ Sees y sl zs) ∧ (L 5 = true → v72 = .tuple #[.agg #[.int .i64 cb, .int .i64 ra, sl], .bool X, .int .i64 0]) ∧ (L 6 = true → v78 = .agg #[.int .i64 cb, .int .i64 ra, sl]) ∧ (L 7 = true → v79 = .bool X) ∧ (L 8 = true → v80 = .int .i64 0) ∧
    (L 9 = true → v14 = .pointer (some ⟨D, 0, none⟩) ∧ W.heap.size ≤ D ∧ ∃ p q r, y.heap[D]? = some (.cells #[p, q, r] 24 (0, 0))) ∧
    (L 10 = true → y.heap[D]? = some (.cells #[.int .i64 cb, .int .i64 ra, sl] 24 (0, 0))) ∧
    (L 4 = true → L 9 = true → ∀ k, sl.ownBlock = some k → k ≠ D) ∧ (L 11 = true → v15 = .bool X) ∧ (L 12 = true → v16 = .int .i64 0)

set_option maxRecDepth 40000 in
set_option maxHeartbeats 2000000 in
theorem ts_region {D2 D3 : Nat} {u0 u1 u4 u5 u6 u7 u8 u9 u10 u11 u12 u13 u17 u18 u19 u20 u21 u22 u23 u24 u25 u26 u27 u28 u29 u30 u31 u32 u33 u34 u35 u36 u37 u38 u39 u40 u41 u42 u43 u44 u45 u46 u47 u48 u49 u50 u51 u52 u53 u54 u55 u56 u57 u58 u59 u60 u61 u62 u63 u64 u65 u66 u67 u68 u69 u70 u71 u81 u82 u83 u84 u85 u86 u87 u88 u89 u90 u91 u92 u93 u94 u95 u96 u97 u98 u99 u100 u101 u102 u103 u104 : Value} {W : World} {Q : Exit → Act → World → Prop} {ra ca rb cb : Int} {ao bo : Option Addr} {n cap m bcap : Nat} {X : Bool} {ts bs zs : List Int} (hz : 0 < zs.length)
    (x2 : W.heap[D2]? = some (.cells #[.int .i64 ra, .int .i64 ca, .slice ao n cap] 24 (0, 0))) (x3 : W.heap[D3]? = some (.cells #[.int .i64 rb, .int .i64 cb, .slice bo m bcap] 24 (0, 0)))
    (c1 : ∀ y, Below W.heap.size W y → Calls Try.prog 29 #[.agg #[.int .i64 rb, .int .i64 cb, .slice bo m bcap]] y fun e b => ∃ v, e = .returned (.agg #[.int .i64 cb, .int .i64 rb, v]) ∧ Sees b v bs ∧ Below y.heap.size y b)
    (c3 : ∀ y, Below W.heap.size W y → Calls Try.prog 29 #[.agg #[.int .i64 ra, .int .i64 ca, .slice ao n cap]] y fun e b => ∃ v, e = .returned (.agg #[.int .i64 ca, .int .i64 ra, v]) ∧ Sees b v ts ∧ Below y.heap.size y b)
    (c4 : ∀ y s t, Below W.heap.size W y → Sees y s bs → Sees y t ts → Calls Try.prog 16 #[.agg #[.int .i64 cb, .int .i64 rb, s], .agg #[.int .i64 ca, .int .i64 ra, t]] y fun e b => ∃ v, e = .returned (.tuple #[.agg #[.int .i64 cb, .int .i64 ra, v], .bool X, .int .i64 0]) ∧ Sees b v zs ∧ New y.heap.size v ∧ Below y.heap.size y b)
    (hQ : ∀ (v72 v73 v74 v75 v76 v77 v78 v79 v80 sl : Value) (D : Nat) (y : World), Below W.heap.size W y → y.heap[D]? = some (.cells #[.int .i64 cb, .int .i64 ra, sl] 24 (0, 0)) → Sees y sl zs → Q .normal (tsFr D2 D3 u0 u1 u4 u5 u6 u7 u8 u9 u10 u11 u12 u13 u17 u18 u19 u20 u21 u22 u23 u24 u25 u26 u27 u28 u29 u30 u31 u32 u33 u34 u35 u36 u37 u38 u39 u40 u41 u42 u43 u44 u45 u46 u47 u48 u49 u50 u51 u52 u53 u54 u55 u56 u57 u58 u59 u60 u61 u62 u63 u64 u65 u66 u67 u68 u69 u70 u71 u81 u82 u83 u84 u85 u86 u87 u88 u89 u90 u91 u92 u93 u94 u95 u96 u97 u98 u99 u100 u101 u102 u103 u104 (.pointer (some ⟨D, 0, none⟩)) (.bool X) (.int .i64 0) v72 v73 v74 v75 v76 v77 v78 v79 v80) y) :
    (Code.region 11 tsOps true).wp Try.prog Q (tsFr D2 D3 u0 u1 u4 u5 u6 u7 u8 u9 u10 u11 u12 u13 u17 u18 u19 u20 u21 u22 u23 u24 u25 u26 u27 u28 u29 u30 u31 u32 u33 u34 u35 u36 u37 u38 u39 u40 u41 u42 u43 u44 u45 u46 u47 u48 u49 u50 u51 u52 u53 u54 u55 u56 u57 u58 u59 u60 u61 u62 u63 u64 u65 u66 u67 u68 u69 u70 u71 u81 u82 u83 u84 u85 u86 u87 u88 u89 u90 u91 u92 u93 u94 u95 u96 u97 u98 u99 u100 u101 u102 u103 u104 undef undef undef undef undef undef undef undef undef undef undef undef) W := by
  have p1 : pres tsOps 1 = [0] := by decide
  have p3 : pres tsOps 3 = [2, 1] := by decide
  have p4 : pres tsOps 4 = [1, 3, 3] := by decide
  have p5 : pres tsOps 5 = [4] := by decide
  have p6 : pres tsOps 6 = [5] := by decide
  have p7 : pres tsOps 7 = [5] := by decide
  have p8 : pres tsOps 8 = [5] := by decide
  have p10 : pres tsOps 10 = [9, 6, 4, 0, 1, 2, 3, 4, 5, 6, 9] := by decide
  have p11 : pres tsOps 11 = [7, 10, 0, 1, 2, 3, 4, 5, 6, 7, 9, 10] := by decide
  have p12 : pres tsOps 12 = [8, 11, 0, 1, 2, 3, 4, 5, 6, 7, 8, 9, 10, 11] := by decide
  refine wp_region_L (by kernel_rfl) (by decide) (TsInv D2 D3 u0 u1 u4 u5 u6 u7 u8 u9 u10 u11 u12 u13 u17 u18 u19 u20 u21 u22 u23 u24 u25 u26 u27 u28 u29 u30 u31 u32 u33 u34 u35 u36 u37 u38 u39 u40 u41 u42 u43 u44 u45 u46 u47 u48 u49 u50 u51 u52 u53 u54 u55 u56 u57 u58 u59 u60 u61 u62 u63 u64 u65 u66 u67 u68 u69 u70 u71 u81 u82 u83 u84 u85 u86 u87 u88 u89 u90 u91 u92 u93 u94 u95 u96 u97 u98 u99 u100 u101 u102 u103 u104 W ra ca rb cb ao bo n cap m bcap X ts bs zs) ?_ ?_ ?_
  · refine ⟨undef, undef, undef, undef, undef, undef, undef, undef, undef, undef, undef, undef, undef, undef, undef, 0, rfl, (Below.refl _ _).drew, ?_, ?_, ?_, ?_, ?_, ?_, ?_, ?_, ?_, ?_, ?_, ?_, ?_, ?_⟩
    all_goals (intro h; cases h)
  · rintro L a y i hi ⟨v14, v15, v16, v72, v73, v74, v75, v76, v77, v78, v79, v80, q1, q2, sl, D, rfl, hb, k0, k2, k1, k3, k4, k5, k6, k7, k8, k9, k10, kx, k11, k12⟩ hc hL hp
    have hi13 : i < 13 := hi
    have c5 : L 5 = true → L 4 = true := fun h => hc 5 (by decide) h 4 (by rw [p5]; decide)
    have c6 : L 6 = true → L 5 = true := fun h => hc 6 (by decide) h 5 (by rw [p6]; decide)
    have d10 : L 10 = true → L 1 = true ∧ L 3 = true ∧ L 4 = true ∧ L 9 = true := fun h => ⟨hc 10 (by decide) h 1 (by rw [p10]; decide), hc 10 (by decide) h 3 (by rw [p10]; decide), hc 10 (by decide) h 4 (by rw [p10]; decide), hc 10 (by decide) h 9 (by rw [p10]; decide)⟩
    have no : ∀ {b c : Bool}, (b = true → c = true) → c = false → ¬ b = true := fun h1 h2 h3 => by rw [h1 h3] at h2; cases h2
    have fals : ∀ {b : Bool}, ¬ b = true → b = false := fun h => by simpa using h
    rcases (by omega : i = 0 ∨ i = 1 ∨ i = 2 ∨ i = 3 ∨ i = 4 ∨ i = 5 ∨ i = 6 ∨ i = 7 ∨ i = 8 ∨ i = 9 ∨ i = 10 ∨ i = 11 ∨ i = 12) with rfl | rfl | rfl | rfl | rfl | rfl | rfl | rfl | rfl | rfl | rfl | rfl | rfl
    · refine wpOp_of _ rfl rfl (op_load rfl (by rfl) (keep hb x3) ?_)
      exact ⟨v14, v15, v16, v72, _, v74, v75, v76, v77, v78, v79, v80, q1, q2, sl, D, rfl, hb, fun _ => rfl, k2, k1, k3, k4, k5, k6, k7, k8, k9, k10, kx, k11, k12⟩
    · have h0 := k0 (hp 0 (by rw [p1]; decide))
      subst h0
      have hn : ¬ L 10 = true := no (fun h => (d10 h).1) hL
      refine wpOp_of _ rfl rfl (op_call1 enters29 rfl (by rfl) (c1 y hb) ?_)
      rintro e y' ⟨v, rfl, s', b'⟩
      refine ⟨_, rfl, ?_⟩
      exact ⟨v14, v15, v16, v72, _, _, v75, v76, v77, v78, v79, v80, v, q2, sl, D, rfl, bt hb b', fun _ => rfl, k2, fun _ _ => ⟨rfl, s'⟩, fun h g => ⟨(k3 h g).1, (k3 h g).2.below b'⟩, fun h => ⟨(k4 h).1, (k4 h).2.below b'⟩, k5, k6, k7, k8, fun h => ⟨(k9 h).1, (k9 h).2.1, let ⟨p, q, r, e⟩ := (k9 h).2.2; ⟨p, q, r, keep b' e⟩⟩, fun h => absurd h hn, kx, k11, k12⟩
    · refine wpOp_of _ rfl rfl (op_load rfl (by rfl) (keep hb x2) ?_)
      exact ⟨v14, v15, v16, v72, v73, v74, _, v76, v77, v78, v79, v80, q1, q2, sl, D, rfl, hb, k0, fun _ => rfl, k1, k3, k4, k5, k6, k7, k8, k9, k10, kx, k11, k12⟩
    · have h0 := k2 (hp 2 (by rw [p3]; decide))
      subst h0
      have hn : ¬ L 10 = true := no (fun h => (d10 h).2.1) hL
      refine wpOp_of _ rfl rfl (op_call1 enters29 rfl (by rfl) (c3 y hb) ?_)
      rintro e y' ⟨v, rfl, s', b'⟩
      refine ⟨_, rfl, ?_⟩
      exact ⟨v14, v15, v16, v72, v73, v74, _, _, v77, v78, v79, v80, q1, v, sl, D, rfl, bt hb b', k0, fun _ => rfl, fun h g => ⟨(k1 h g).1, (k1 h g).2.below b'⟩, fun _ _ => ⟨rfl, s'⟩, fun h => ⟨(k4 h).1, (k4 h).2.below b'⟩, k5, k6, k7, k8, fun h => ⟨(k9 h).1, (k9 h).2.1, let ⟨p, q, r, e⟩ := (k9 h).2.2; ⟨p, q, r, keep b' e⟩⟩, fun h => absurd h hn, kx, k11, k12⟩
    · have hn : ¬ L 10 = true := no (fun h => (d10 h).2.2.1) hL
      have hn5 : ¬ L 5 = true := no c5 hL
      have hn6 : ¬ L 6 = true := fun h => hn5 (c6 h)
      have h10 := fals hn
      obtain ⟨h1, s1⟩ := k1 (hp 1 (by rw [p4]; decide)) h10
      obtain ⟨h3, s3⟩ := k3 (hp 3 (by rw [p4]; decide)) h10
      subst h1
      subst h3
      refine wpOp_of _ rfl rfl (op_call2 enters16 rfl (by rfl) (by rfl) (c4 y _ _ hb s1 s3) ?_)
      rintro e y' ⟨v, rfl, s', n', b'⟩
      refine ⟨_, rfl, ?_⟩
      exact ⟨v14, v15, v16, v72, v73, _, v75, _, _, v78, v79, v80, q1, q2, v, D, rfl, bt hb b', k0, k2, fun _ _ => ⟨rfl, s1.below b'⟩, fun _ _ => ⟨rfl, s3.below b'⟩, fun _ => ⟨rfl, s'⟩, fun h => absurd h hn5, fun h => absurd h hn6, k7, k8, fun h => ⟨(k9 h).1, (k9 h).2.1, let ⟨p, q, r, e⟩ := (k9 h).2.2; ⟨p, q, r, keep b' e⟩⟩, fun h => absurd h hn, fun _ h k hk => by obtain ⟨p, q, r, e⟩ := (k9 h).2.2; have h1 := lt_of_block e; have h2 := n' k hk; omega, k11, k12⟩
    · obtain ⟨h4, s4⟩ := k4 (hp 4 (by rw [p5]; decide))
      subst h4
      refine wpOp_of _ rfl rfl (op_move rfl (by rfl) ?_)
      exact ⟨v14, v15, v16, _, v73, v74, v75, v76, _, v78, v79, v80, q1, q2, sl, D, rfl, hb, k0, k2, k1, k3, fun _ => ⟨rfl, s4⟩, fun _ => rfl, k6, k7, k8, k9, k10, kx, k11, k12⟩
    · have h5 := k5 (hp 5 (by rw [p6]; decide))
      subst h5
      refine wpOp_of _ rfl rfl (op_extract rfl (by rfl) (by rfl) ?_)
      exact ⟨v14, v15, v16, _, v73, v74, v75, v76, v77, _, v79, v80, q1, q2, sl, D, rfl, hb, k0, k2, k1, k3, k4, fun _ => rfl, fun _ => rfl, k7, k8, k9, k10, kx, k11, k12⟩
    · have h5 := k5 (hp 5 (by rw [p7]; decide))
      subst h5
      refine wpOp_of _ rfl rfl (op_extract rfl (by rfl) (by rfl) ?_)
      exact ⟨v14, v15, v16, _, v73, v74, v75, v76, v77, v78, _, v80, q1, q2, sl, D, rfl, hb, k0, k2, k1, k3, k4, fun _ => rfl, k6, fun _ => rfl, k8, k9, k10, kx, k11, k12⟩
    · have h5 := k5 (hp 5 (by rw [p8]; decide))
      subst h5
      refine wpOp_of _ rfl rfl (op_extract rfl (by rfl) (by rfl) ?_)
      exact ⟨v14, v15, v16, _, v73, v74, v75, v76, v77, v78, v79, _, q1, q2, sl, D, rfl, hb, k0, k2, k1, k3, k4, fun _ => rfl, k6, k7, fun _ => rfl, k9, k10, kx, k11, k12⟩
    · have hn : ¬ L 10 = true := no (fun h => (d10 h).2.2.2) hL
      refine wpOp_of _ rfl rfl (op_alloc24 rfl ?_)
      exact ⟨_, v15, v16, v72, v73, v74, v75, v76, v77, v78, v79, v80, q1, q2, sl, y.heap.size, rfl, bt hb (box_below _ _), k0, k2, fun h g => ⟨(k1 h g).1, (k1 h g).2.alloc _⟩, fun h g => ⟨(k3 h g).1, (k3 h g).2.alloc _⟩, fun h => ⟨(k4 h).1, (k4 h).2.alloc _⟩, k5, k6, k7, k8, fun _ => ⟨rfl, hb.size, _, _, _, heap_new y _⟩, fun h => absurd h hn, fun h _ k hk => by have := (k4 h).2.lt hz k hk; omega, k11, k12⟩
    · obtain ⟨h9, hDW, p, q, r, e9⟩ := k9 (hp 9 (by rw [p10]; decide))
      have h6 := k6 (hp 6 (by rw [p10]; decide))
      obtain ⟨h4, s4⟩ := k4 (hp 4 (by rw [p10]; decide))
      have hne := kx (hp 4 (by rw [p10]; decide)) (hp 9 (by rw [p10]; decide))
      subst h9
      subst h6
      obtain ⟨so, scap, hsl⟩ := s4.slice
      subst hsl
      refine wpOp_of _ rfl rfl (op_store24 rfl rfl (by rfl) (by rfl) e9 ?_)
      exact ⟨_, v15, v16, v72, v73, v74, v75, v76, v77, _, v79, v80, q1, q2, _, D, rfl, below_put hb hDW _ _ _, k0, k2, fun _ g => absurd g (by simp), fun _ g => absurd g (by simp), fun _ => ⟨h4, ((s4.set' (a := ⟨D, 0, none⟩) hne _).set' (a := ⟨D, 1, none⟩) hne _).set' (a := ⟨D, 2, none⟩) hne _⟩, k5, fun _ => rfl, k7, k8, fun _ => ⟨rfl, hDW, _, _, _, put_mat e9⟩, fun _ => put_mat e9, fun _ _ => hne, k11, k12⟩
    · have h7 := k7 (hp 7 (by rw [p11]; decide))
      subst h7
      refine wpOp_of _ rfl rfl (op_assign rfl (by rfl) ?_)
      exact ⟨v14, _, v16, v72, v73, v74, v75, v76, v77, v78, _, v80, q1, q2, sl, D, rfl, hb, k0, k2, k1, k3, k4, k5, k6, fun _ => rfl, k8, k9, k10, kx, fun _ => rfl, k12⟩
    · have h8 := k8 (hp 8 (by rw [p12]; decide))
      subst h8
      refine wpOp_of _ rfl rfl (op_assign rfl (by rfl) ?_)
      exact ⟨v14, v15, _, v72, v73, v74, v75, v76, v77, v78, v79, _, q1, q2, sl, D, rfl, hb, k0, k2, k1, k3, k4, k5, k6, k7, fun _ => rfl, k9, k10, kx, k11, fun _ => rfl⟩
  · rintro L a y ⟨v14, v15, v16, v72, v73, v74, v75, v76, v77, v78, v79, v80, q1, q2, sl, D, rfl, hb, k0, k2, k1, k3, k4, k5, k6, k7, k8, k9, k10, kx, k11, k12⟩ hall
    have a4 := k4 (hall 4 (by decide))
    have a9 := (k9 (hall 9 (by decide))).1
    have a10 := k10 (hall 10 (by decide))
    have a11 := k11 (hall 11 (by decide))
    have a12 := k12 (hall 12 (by decide))
    subst a9 a11 a12
    exact hQ _ _ _ _ _ _ _ _ _ sl D y hb a10 a4.2
end Go.Proofs.Yteohdhmimpajmaa
