/- unify (chapter 3's solver): its first region that draws its order, where two boxes are written. Conditions: those that each theorem names. -/
import Derived.Test.YtomhojpoaicioaaUniR
namespace Go.Proofs.Ytomhojpoaicioaa
open Go.RowKit

/-- Ahead of the first store, and behind it. -/
def G1 (P : Nat → Prop) (V : World) (ga : Nat) (t : Tz) (x : Nat → Value) (q : World) : Prop :=
  x 12 = undef ∧ Below V.heap.size V q ∨ x 12 = .bool true ∧ ∃ q0 A c, Below V.heap.size V q0 ∧ q = put3 q0 ga (.int .i64 (formZ t)) (.int .i64 (numZ t)) (.slice A (argsZ t) c) ∧ ZAt P q0 t (.agg #[.int .i64 (formZ t), .int .i64 (numZ t), .slice A (argsZ t) c])
theorem G1.first {P : Nat → Prop} {V : World} {ga : Nat} {t : Tz} {x : Nat → Value} {q : World} (h : G1 P V ga t x q) (e : x 12 = undef) : Below V.heap.size V q := by
  rcases h with h | ⟨h, _⟩
  · exact h.2
  · rw [e] at h; cases h
theorem G1.to {P : Nat → Prop} {V : World} {ga : Nat} {t : Tz} {x : Nat → Value} {q q1 : World} {i : Nat} {v : Value} (hb : Below V.heap.size V q) (e : x 12 = undef) (hq : Below q.heap.size q q1) (hi : 12 ≠ i) : G1 P V ga t (updV x i v) q1 := .inl ⟨(upd_ne hi).trans e, hb.trans (hq.mono hb.size)⟩
def R1 (P : Nat → Prop) (K : Nat → KZ) (j : Nat) (x : Nat → Value) (q : World) : Prop :=
  match K j with
  | .val v => x j = v
  | .at t => ZAt P q t (x j)
  | _ => True
theorem r1_keep {P : Nat → Prop} {q q1 : World} {K : Nat → KZ} {x : Nat → Value} {i j : Nat} {u : Value} (hk : Keeps P q q1) (hj : j ≠ i) (h : R1 P K j x q) : R1 P K j (updV x i u) q1 := by
  unfold R1 at h ⊢
  cases hkj : K j with
  | val v => rw [hkj] at h; exact (upd_ne hj).trans h
  | «at» t => rw [hkj] at h; show ZAt P q1 t (updV x i u j); rw [upd_ne hj]; exact ZAt.keep h hk
  | box => trivial
  | obox => trivial
  | held i' t => trivial
/-- Two boxes were written. -/
structure Wrote2 (P : Nat → Prop) (B0 : Nat) (W0 : World) (t t' : Tz) (ga gb : Nat) (A : Option Addr) (c : Nat) (B : Option Addr) (d : Nat) (q : World) : Prop where
  ta : TB P q ga t A c
  tb : TB P q gb t' B d
  bw : Below B0 W0 q
def F_uni1 (P : Nat → Prop) (B0 : Nat) (W0 : World) (t t' : Tz) (ga gb : Nat) (_ : Nat → Value) (q : World) : Prop := ∃ A c B d, Wrote2 P B0 W0 t t' ga gb A c B d q
def K_uni1 (tb sb : Nat) (t t' : Tz) (Fa Ga Fb Gb : Int) (Ma ca Mb cb : Nat) (Aa Ab : Option Addr) : Nat → KZ
  | 0 => .val (.pointer (some ⟨tb, 0, none⟩))
  | 1 => .val (.pointer (some ⟨tb, 0, none⟩))
  | 2 => .val (.pointer (some ⟨tb, 0, none⟩))
  | 3 => .val (.pointer (some ⟨sb, 0, none⟩))
  | 4 => .val (.agg #[.int .i64 Fa, .int .i64 Ga, .slice Aa Ma ca])
  | 5 => .at t
  | 6 => .val (.pointer (some ⟨tb, 0, none⟩))
  | 7 => .val (.pointer (some ⟨tb, 0, none⟩))
  | 8 => .val (.pointer (some ⟨tb, 0, none⟩))
  | 9 => .val (.pointer (some ⟨sb, 0, none⟩))
  | 10 => .val (.agg #[.int .i64 Fb, .int .i64 Gb, .slice Ab Mb cb])
  | 11 => .at t'
  | 12 => .val (.bool true)
  | _ => .val undef
set_option maxRecDepth 100000 in
set_option maxHeartbeats 1000000 in
theorem uni1 {V W0 : World} {P : Nat → Prop} {B0 tb sb ga gb : Nat} {t t' : Tz} {Fa Ga Fb Gb : Int} {Ma ca Mb cb : Nat} {Aa Ab : Option Addr} (hPa : ¬ P ga) (hPb : ¬ P gb) (hW : Below B0 W0 V) (h0v : B0 ≤ V.heap.size) (h0a : B0 ≤ ga) (h0b : B0 ≤ gb) (hne : ga ≠ gb) (hOa : OB V ga) (hOb : OB V gb) (H0 : Hid (∀ q, Below V.heap.size V q → q.cell? ⟨tb, 0, none⟩ = some (.pointer (some ⟨sb, 0, none⟩)))) (HA : Hid (∀ q, Below V.heap.size V q → q.cell? ⟨ga, 0, none⟩ = some (.int .i64 Fa) ∧ q.cell? ⟨ga, 1, none⟩ = some (.int .i64 Ga) ∧ q.cell? ⟨ga, 2, none⟩ = some (.slice Aa Ma ca))) (HB : Hid (∀ q, Below V.heap.size V q → q.cell? ⟨gb, 0, none⟩ = some (.int .i64 Fb) ∧ q.cell? ⟨gb, 1, none⟩ = some (.int .i64 Gb) ∧ q.cell? ⟨gb, 2, none⟩ = some (.slice Ab Mb cb))) (HX : Hid (∀ q, Below V.heap.size V q → Calls Try.prog 52 #[.pointer (some ⟨sb, 0, none⟩), .agg #[.int .i64 Fa, .int .i64 Ga, .slice Aa Ma ca]] q (TermZ P q t))) (HY : Hid (∀ q, Below V.heap.size V q → Calls Try.prog 52 #[.pointer (some ⟨sb, 0, none⟩), .agg #[.int .i64 Fb, .int .i64 Gb, .slice Ab Mb cb]] q (TermZ P q t'))) {Q : Exit → Act → World → Prop} {ds : List Deferred} {r1 r2 r3 r6 r7 r8 r9 r10 r11 r12 r13 r14 r15 r16 r17 r18 r19 r20 r21 r22 r23 r24 r25 r26 r27 r28 r29 r30 r31 r32 r33 r34 r35 r36 r37 r38 r39 r40 r41 r42 r43 r44 r45 r46 r47 r48 r49 r50 r51 r52 r53 r54 r55 r56 r57 r58 r59 r60 r61 r62 r63 r64 r65 r66 r67 r68 r69 r70 r71 r72 r73 r74 r75 r76 r77 r78 r79 r80 r81 r82 r83 r84 r85 r86 r87 r88 r89 r90 r91 r92 r93 r94 r95 r96 r97 r98 r99 r100 r101 r102 r103 r104 r105 r106 r107 r108 r109 r110 r111 r112 r113 r114 r115 r116 r117 r118 r119 r120 : Value}
    (hf : ∀ (x0 x1 x2 x3 x4 x5 x6 x7 x8 x9 x10 x11 : Value) (A : Option Addr) (c : Nat) (B : Option Addr) (d : Nat) (q : World), Wrote2 P B0 W0 t t' ga gb A c B d q → Q .normal ⟨#[.pointer (some ⟨tb, 0, none⟩), r1, r2, r3, .pointer (some ⟨ga, 0, none⟩), .pointer (some ⟨gb, 0, none⟩), r6, r7, r8, r9, r10, x0, x1, x2, x3, x4, x5, x6, x7, x8, x9, x10, x11, r23, r24, r25, r26, r27, r28, r29, r30, r31, r32, r33, r34, r35, r36, r37, r38, r39, r40, r41, r42, r43, r44, r45, r46, r47, r48, r49, r50, r51, r52, r53, r54, r55, r56, r57, r58, r59, r60, r61, r62, r63, r64, r65, r66, r67, r68, r69, r70, r71, r72, r73, r74, r75, r76, r77, r78, r79, r80, r81, r82, r83, r84, r85, r86, r87, r88, r89, r90, r91, r92, r93, r94, r95, r96, r97, r98, r99, r100, r101, r102, r103, r104, r105, r106, r107, r108, r109, r110, r111, r112, r113, r114, r115, r116, r117, r118, r119, r120], ds⟩ q) :
    Code.wp Try.prog (Code.region 1 #[{ dst := some 11, op := Op.move (Operand.tmp 0), type := 101, pos := "trial.go:20", after := #[], guard := none }, { dst := some 12, op := Op.nilCheck (Operand.tmp 11), type := 0, pos := "trial.go:20", after := #[{ on := 0, ground := Ground.data }], guard := none }, { dst := some 13, op := Op.fieldAddr 93 (Operand.tmp 12) 0, type := 0, pos := "trial.go:20", after := #[{ on := 1, ground := Ground.data }], guard := none }, { dst := some 14, op := Op.load 45 (Operand.tmp 13), type := 45, pos := "trial.go:20", after := #[{ on := 2, ground := Ground.data }], guard := none }, { dst := some 15, op := Op.load 49 (Operand.tmp 4), type := 49, pos := "trial.go:20", after := #[], guard := none }, { dst := some 16, op := Op.call { callee := Callee.value (Operand.func 52), args := #[Operand.tmp 14, Operand.tmp 15], argTypes := #[45, 49] }, type := 49, pos := "trial.go:20", after := #[{ on := 3, ground := Ground.data }, { on := 4, ground := Ground.data }], guard := none }, { dst := some 17, op := Op.move (Operand.tmp 0), type := 101, pos := "trial.go:20", after := #[], guard := none }, { dst := some 18, op := Op.nilCheck (Operand.tmp 17), type := 0, pos := "trial.go:20", after := #[{ on := 6, ground := Ground.data }], guard := none }, { dst := some 19, op := Op.fieldAddr 93 (Operand.tmp 18) 0, type := 0, pos := "trial.go:20", after := #[{ on := 7, ground := Ground.data }], guard := none }, { dst := some 20, op := Op.load 45 (Operand.tmp 19), type := 45, pos := "trial.go:20", after := #[{ on := 8, ground := Ground.data }], guard := none }, { dst := some 21, op := Op.load 49 (Operand.tmp 5), type := 49, pos := "trial.go:20", after := #[], guard := none }, { dst := some 22, op := Op.call { callee := Callee.value (Operand.func 52), args := #[Operand.tmp 20, Operand.tmp 21], argTypes := #[45, 49] }, type := 49, pos := "trial.go:20", after := #[{ on := 9, ground := Ground.data }, { on := 10, ground := Ground.data }, { on := 5, ground := Ground.chain }], guard := none }, { dst := none, op := Op.store 49 (Operand.tmp 4) (Operand.tmp 16), type := 0, pos := "trial.go:20", after := #[{ on := 5, ground := Ground.data }, { on := 11, ground := Ground.chain }, { on := 0, ground := Ground.phase }, { on := 1, ground := Ground.phase }, { on := 2, ground := Ground.phase }, { on := 3, ground := Ground.phase }, { on := 4, ground := Ground.phase }, { on := 5, ground := Ground.phase }, { on := 6, ground := Ground.textOnly Departure.lateStores }, { on := 7, ground := Ground.textOnly Departure.lateStores }, { on := 8, ground := Ground.textOnly Departure.lateStores }, { on := 9, ground := Ground.textOnly Departure.lateStores }, { on := 10, ground := Ground.textOnly Departure.lateStores }, { on := 11, ground := Ground.textOnly Departure.lateStoresUnsure }], guard := none }, { dst := none, op := Op.store 49 (Operand.tmp 5) (Operand.tmp 22), type := 0, pos := "trial.go:20", after := #[{ on := 11, ground := Ground.data }, { on := 12, ground := Ground.chain }, { on := 0, ground := Ground.phase }, { on := 1, ground := Ground.phase }, { on := 2, ground := Ground.phase }, { on := 3, ground := Ground.phase }, { on := 4, ground := Ground.phase }, { on := 5, ground := Ground.phase }, { on := 6, ground := Ground.phase }, { on := 7, ground := Ground.phase }, { on := 8, ground := Ground.phase }, { on := 9, ground := Ground.phase }, { on := 10, ground := Ground.phase }, { on := 11, ground := Ground.phase }, { on := 12, ground := Ground.phase }], guard := none }] true) Q ⟨#[.pointer (some ⟨tb, 0, none⟩), r1, r2, r3, .pointer (some ⟨ga, 0, none⟩), .pointer (some ⟨gb, 0, none⟩), r6, r7, r8, r9, r10, r11, r12, r13, r14, r15, r16, r17, r18, r19, r20, r21, r22, r23, r24, r25, r26, r27, r28, r29, r30, r31, r32, r33, r34, r35, r36, r37, r38, r39, r40, r41, r42, r43, r44, r45, r46, r47, r48, r49, r50, r51, r52, r53, r54, r55, r56, r57, r58, r59, r60, r61, r62, r63, r64, r65, r66, r67, r68, r69, r70, r71, r72, r73, r74, r75, r76, r77, r78, r79, r80, r81, r82, r83, r84, r85, r86, r87, r88, r89, r90, r91, r92, r93, r94, r95, r96, r97, r98, r99, r100, r101, r102, r103, r104, r105, r106, r107, r108, r109, r110, r111, r112, r113, r114, r115, r116, r117, r118, r119, r120], ds⟩ V := by
  refine wp_region_rel (m := 13) (o := ⟨none, _, _, _, _, _⟩) (D := [some 11, some 12, some 13, some 14, some 15, some 16, some 17, some 18, some 19, some 20, some 21, some 22, none, none]) (G := G1 P V ga t) (R := R1 P (K_uni1 tb sb t t' Fa Ga Fb Gb Ma ca Mb cb Aa Ab)) (F_uni1 P B0 W0 t t' ga gb) V (by kernel_rfl) (by kernel_rfl) (by kernel_rfl) (by rfl) (by kernel_rfl) (by kernel_rfl) (by kernel_rfl) ?_ ?_ ?_ ?_
  · intro x' hx'
    exact .inl ⟨hx' 12 none rfl, (Below.refl _ _).drew⟩
  · show StepsI _ _ _ _ _ _ _ _ [0, 1, 2, 3, 4, 5, 6, 7, 8, 9, 10, 11, 12]
    refine .cons (o := ⟨some 11, _, _, _, _, _⟩) (ds := []) (js := [2, 3, 4, 5, 6, 7, 8, 9, 10, 11]) (ws := [0, 1, 2, 3, 5, 11, 12, 13]) rfl (by kernel_rfl) (by kernel_rfl) (by kernel_rfl) ?_ ?_
    · intro x' q hG hd hin K hK
      have HIN := Lib.hid hin
      clear hin
      have e12 : x' 12 = undef := HIN.out 12 (by decide)
      have hB := hG.first e12
      have HE := Lib.hid e12
      clear e12
      refine HidG.mk ?_
      simp only [putsA, Act.put, List.setIfInBounds_toArray, List.set_cons_zero, List.set_cons_succ, Nat.reduceAdd, Nat.zero_add] at hK ⊢
      go_simp
      refine hK _ _ (by exact .to hB HE.out (Below.refl _ _) (by decide)) (fun j hj h => ?_) (by exact rfl)
      · simp only [List.mem_cons, List.not_mem_nil, or_false] at hj
        rcases hj with rfl | rfl | rfl | rfl | rfl | rfl | rfl | rfl | rfl | rfl
        · exact r1_keep (.of_below (Below.refl _ _)) (by decide) h
        · exact r1_keep (.of_below (Below.refl _ _)) (by decide) h
        · exact r1_keep (.of_below (Below.refl _ _)) (by decide) h
        · exact r1_keep (.of_below (Below.refl _ _)) (by decide) h
        · exact r1_keep (.of_below (Below.refl _ _)) (by decide) h
        · exact r1_keep (.of_below (Below.refl _ _)) (by decide) h
        · exact r1_keep (.of_below (Below.refl _ _)) (by decide) h
        · exact r1_keep (.of_below (Below.refl _ _)) (by decide) h
        · exact r1_keep (.of_below (Below.refl _ _)) (by decide) h
        · exact r1_keep (.of_below (Below.refl _ _)) (by decide) h
    refine .cons (o := ⟨some 12, _, _, _, _, _⟩) (ds := [0]) (js := [0, 3, 4, 5, 6, 7, 8, 9, 10, 11]) (ws := [1, 2, 3, 5, 11, 12, 13]) rfl (by kernel_rfl) (by kernel_rfl) (by kernel_rfl) ?_ ?_
    · intro x' q hG hd hin K hK
      have HIN := Lib.hid hin
      clear hin
      have d0 : x' 0 = (.pointer (some ⟨tb, 0, none⟩)) := hd 0 (by simp)
      have e12 : x' 12 = undef := HIN.out 12 (by decide)
      have hB := hG.first e12
      have HE := Lib.hid e12
      clear e12
      refine HidG.mk ?_
      simp only [putsA, Act.put, List.setIfInBounds_toArray, List.set_cons_zero, List.set_cons_succ, Nat.reduceAdd, Nat.zero_add] at hK ⊢
      rw [d0] at hK ⊢
      go_simp
      refine hK _ _ (by exact .to hB HE.out (Below.refl _ _) (by decide)) (fun j hj h => ?_) (by exact rfl)
      · simp only [List.mem_cons, List.not_mem_nil, or_false] at hj
        rcases hj with rfl | rfl | rfl | rfl | rfl | rfl | rfl | rfl | rfl | rfl
        · exact r1_keep (.of_below (Below.refl _ _)) (by decide) h
        · exact r1_keep (.of_below (Below.refl _ _)) (by decide) h
        · exact r1_keep (.of_below (Below.refl _ _)) (by decide) h
        · exact r1_keep (.of_below (Below.refl _ _)) (by decide) h
        · exact r1_keep (.of_below (Below.refl _ _)) (by decide) h
        · exact r1_keep (.of_below (Below.refl _ _)) (by decide) h
        · exact r1_keep (.of_below (Below.refl _ _)) (by decide) h
        · exact r1_keep (.of_below (Below.refl _ _)) (by decide) h
        · exact r1_keep (.of_below (Below.refl _ _)) (by decide) h
        · exact r1_keep (.of_below (Below.refl _ _)) (by decide) h
    refine .cons (o := ⟨some 13, _, _, _, _, _⟩) (ds := [1]) (js := [0, 1, 4, 5, 6, 7, 8, 9, 10, 11]) (ws := [2, 3, 5, 11, 12, 13]) rfl (by kernel_rfl) (by kernel_rfl) (by kernel_rfl) ?_ ?_
    · intro x' q hG hd hin K hK
      have HIN := Lib.hid hin
      clear hin
      have d1 : x' 1 = (.pointer (some ⟨tb, 0, none⟩)) := hd 1 (by simp)
      have e12 : x' 12 = undef := HIN.out 12 (by decide)
      have hB := hG.first e12
      have HE := Lib.hid e12
      clear e12
      refine HidG.mk ?_
      simp only [putsA, Act.put, List.setIfInBounds_toArray, List.set_cons_zero, List.set_cons_succ, Nat.reduceAdd, Nat.zero_add] at hK ⊢
      rw [d1] at hK ⊢
      go_simp
      refine hK _ _ (by exact .to hB HE.out (Below.refl _ _) (by decide)) (fun j hj h => ?_) (by exact rfl)
      · simp only [List.mem_cons, List.not_mem_nil, or_false] at hj
        rcases hj with rfl | rfl | rfl | rfl | rfl | rfl | rfl | rfl | rfl | rfl
        · exact r1_keep (.of_below (Below.refl _ _)) (by decide) h
        · exact r1_keep (.of_below (Below.refl _ _)) (by decide) h
        · exact r1_keep (.of_below (Below.refl _ _)) (by decide) h
        · exact r1_keep (.of_below (Below.refl _ _)) (by decide) h
        · exact r1_keep (.of_below (Below.refl _ _)) (by decide) h
        · exact r1_keep (.of_below (Below.refl _ _)) (by decide) h
        · exact r1_keep (.of_below (Below.refl _ _)) (by decide) h
        · exact r1_keep (.of_below (Below.refl _ _)) (by decide) h
        · exact r1_keep (.of_below (Below.refl _ _)) (by decide) h
        · exact r1_keep (.of_below (Below.refl _ _)) (by decide) h
    refine .cons (o := ⟨some 14, _, _, _, _, _⟩) (ds := [2]) (js := [0, 1, 2, 4, 6, 7, 8, 9, 10, 11]) (ws := [3, 5, 11, 12, 13]) rfl (by kernel_rfl) (by kernel_rfl) (by kernel_rfl) ?_ ?_
    · intro x' q hG hd hin K hK
      have HIN := Lib.hid hin
      clear hin
      have d2 : x' 2 = (.pointer (some ⟨tb, 0, none⟩)) := hd 2 (by simp)
      have e12 : x' 12 = undef := HIN.out 12 (by decide)
      have hB := hG.first e12
      have HE := Lib.hid e12
      clear e12
      have k0 := H0.out q hB
      refine HidG.mk ?_
      simp only [putsA, Act.put, List.setIfInBounds_toArray, List.set_cons_zero, List.set_cons_succ, Nat.reduceAdd, Nat.zero_add] at hK ⊢
      rw [d2] at hK ⊢
      go_simp
      refine hK _ _ (by exact .to hB HE.out (Below.refl _ _) (by decide)) (fun j hj h => ?_) (by exact rfl)
      · simp only [List.mem_cons, List.not_mem_nil, or_false] at hj
        rcases hj with rfl | rfl | rfl | rfl | rfl | rfl | rfl | rfl | rfl | rfl
        · exact r1_keep (.of_below (Below.refl _ _)) (by decide) h
        · exact r1_keep (.of_below (Below.refl _ _)) (by decide) h
        · exact r1_keep (.of_below (Below.refl _ _)) (by decide) h
        · exact r1_keep (.of_below (Below.refl _ _)) (by decide) h
        · exact r1_keep (.of_below (Below.refl _ _)) (by decide) h
        · exact r1_keep (.of_below (Below.refl _ _)) (by decide) h
        · exact r1_keep (.of_below (Below.refl _ _)) (by decide) h
        · exact r1_keep (.of_below (Below.refl _ _)) (by decide) h
        · exact r1_keep (.of_below (Below.refl _ _)) (by decide) h
        · exact r1_keep (.of_below (Below.refl _ _)) (by decide) h
    refine .cons (o := ⟨some 15, _, _, _, _, _⟩) (ds := []) (js := [0, 1, 2, 3, 6, 7, 8, 9, 10, 11]) (ws := [4, 5, 11, 12, 13]) rfl (by kernel_rfl) (by kernel_rfl) (by kernel_rfl) ?_ ?_
    · intro x' q hG hd hin K hK
      have HIN := Lib.hid hin
      clear hin
      have e12 : x' 12 = undef := HIN.out 12 (by decide)
      have hB := hG.first e12
      have HE := Lib.hid e12
      clear e12
      obtain ⟨k0, k1, k2⟩ := HA.out q hB
      refine HidG.mk ?_
      simp only [putsA, Act.put, List.setIfInBounds_toArray, List.set_cons_zero, List.set_cons_succ, Nat.reduceAdd, Nat.zero_add] at hK ⊢
      go_simp
      refine hK _ _ (by exact .to hB HE.out (Below.refl _ _) (by decide)) (fun j hj h => ?_) (by exact rfl)
      · simp only [List.mem_cons, List.not_mem_nil, or_false] at hj
        rcases hj with rfl | rfl | rfl | rfl | rfl | rfl | rfl | rfl | rfl | rfl
        · exact r1_keep (.of_below (Below.refl _ _)) (by decide) h
        · exact r1_keep (.of_below (Below.refl _ _)) (by decide) h
        · exact r1_keep (.of_below (Below.refl _ _)) (by decide) h
        · exact r1_keep (.of_below (Below.refl _ _)) (by decide) h
        · exact r1_keep (.of_below (Below.refl _ _)) (by decide) h
        · exact r1_keep (.of_below (Below.refl _ _)) (by decide) h
        · exact r1_keep (.of_below (Below.refl _ _)) (by decide) h
        · exact r1_keep (.of_below (Below.refl _ _)) (by decide) h
        · exact r1_keep (.of_below (Below.refl _ _)) (by decide) h
        · exact r1_keep (.of_below (Below.refl _ _)) (by decide) h
    refine .cons (o := ⟨some 16, _, _, _, _, _⟩) (ds := [3, 4]) (js := [0, 1, 2, 3, 4, 6, 7, 8, 9, 10]) (ws := [5, 11, 12, 13]) rfl (by kernel_rfl) (by kernel_rfl) (by kernel_rfl) ?_ ?_
    · intro x' q hG hd hin K hK
      have HIN := Lib.hid hin
      clear hin
      have d3 : x' 3 = (.pointer (some ⟨sb, 0, none⟩)) := hd 3 (by simp)
      have d4 : x' 4 = (.agg #[.int .i64 Fa, .int .i64 Ga, .slice Aa Ma ca]) := hd 4 (by simp)
      have e12 : x' 12 = undef := HIN.out 12 (by decide)
      have hB := hG.first e12
      have HE := Lib.hid e12
      clear e12
      refine HidG.mk ?_
      simp only [putsA, Act.put, List.setIfInBounds_toArray, List.set_cons_zero, List.set_cons_succ, Nat.reduceAdd, Nat.zero_add] at hK ⊢
      rw [d3, d4] at hK ⊢
      go_simp
      (with_reducible refine (HX.out _ hB).mono ?_)
      rintro e q1 ⟨tv, rfl, ht, hb⟩
      refine hK _ _ (by exact .to hB HE.out hb (by decide)) (fun j hj h => ?_) (by exact ht)
      · simp only [List.mem_cons, List.not_mem_nil, or_false] at hj
        rcases hj with rfl | rfl | rfl | rfl | rfl | rfl | rfl | rfl | rfl | rfl
        · exact r1_keep (.of_below hb) (by decide) h
        · exact r1_keep (.of_below hb) (by decide) h
        · exact r1_keep (.of_below hb) (by decide) h
        · exact r1_keep (.of_below hb) (by decide) h
        · exact r1_keep (.of_below hb) (by decide) h
        · exact r1_keep (.of_below hb) (by decide) h
        · exact r1_keep (.of_below hb) (by decide) h
        · exact r1_keep (.of_below hb) (by decide) h
        · exact r1_keep (.of_below hb) (by decide) h
        · exact r1_keep (.of_below hb) (by decide) h
    refine .cons (o := ⟨some 17, _, _, _, _, _⟩) (ds := []) (js := [0, 1, 2, 3, 4, 5, 8, 9, 10, 11, 12]) (ws := [6, 7, 8, 9, 11, 12, 13]) rfl (by kernel_rfl) (by kernel_rfl) (by kernel_rfl) ?_ ?_
    · intro x' q hG hd hin K hK
      have HIN := Lib.hid hin
      clear hin
      have e12 : x' 12 = undef := HIN.out 12 (by decide)
      have hB := hG.first e12
      have HE := Lib.hid e12
      clear e12
      refine HidG.mk ?_
      simp only [putsA, Act.put, List.setIfInBounds_toArray, List.set_cons_zero, List.set_cons_succ, Nat.reduceAdd, Nat.zero_add] at hK ⊢
      go_simp
      refine hK _ _ (by exact .to hB HE.out (Below.refl _ _) (by decide)) (fun j hj h => ?_) (by exact rfl)
      · simp only [List.mem_cons, List.not_mem_nil, or_false] at hj
        rcases hj with rfl | rfl | rfl | rfl | rfl | rfl | rfl | rfl | rfl | rfl | rfl
        · exact r1_keep (.of_below (Below.refl _ _)) (by decide) h
        · exact r1_keep (.of_below (Below.refl _ _)) (by decide) h
        · exact r1_keep (.of_below (Below.refl _ _)) (by decide) h
        · exact r1_keep (.of_below (Below.refl _ _)) (by decide) h
        · exact r1_keep (.of_below (Below.refl _ _)) (by decide) h
        · exact r1_keep (.of_below (Below.refl _ _)) (by decide) h
        · exact r1_keep (.of_below (Below.refl _ _)) (by decide) h
        · exact r1_keep (.of_below (Below.refl _ _)) (by decide) h
        · exact r1_keep (.of_below (Below.refl _ _)) (by decide) h
        · exact r1_keep (.of_below (Below.refl _ _)) (by decide) h
        · exact r1_keep (.of_below (Below.refl _ _)) (by decide) h
    refine .cons (o := ⟨some 18, _, _, _, _, _⟩) (ds := [6]) (js := [0, 1, 2, 3, 4, 5, 6, 9, 10, 11, 12]) (ws := [7, 8, 9, 11, 12, 13]) rfl (by kernel_rfl) (by kernel_rfl) (by kernel_rfl) ?_ ?_
    · intro x' q hG hd hin K hK
      have HIN := Lib.hid hin
      clear hin
      have d6 : x' 6 = (.pointer (some ⟨tb, 0, none⟩)) := hd 6 (by simp)
      have e12 : x' 12 = undef := HIN.out 12 (by decide)
      have hB := hG.first e12
      have HE := Lib.hid e12
      clear e12
      refine HidG.mk ?_
      simp only [putsA, Act.put, List.setIfInBounds_toArray, List.set_cons_zero, List.set_cons_succ, Nat.reduceAdd, Nat.zero_add] at hK ⊢
      rw [d6] at hK ⊢
      go_simp
      refine hK _ _ (by exact .to hB HE.out (Below.refl _ _) (by decide)) (fun j hj h => ?_) (by exact rfl)
      · simp only [List.mem_cons, List.not_mem_nil, or_false] at hj
        rcases hj with rfl | rfl | rfl | rfl | rfl | rfl | rfl | rfl | rfl | rfl | rfl
        · exact r1_keep (.of_below (Below.refl _ _)) (by decide) h
        · exact r1_keep (.of_below (Below.refl _ _)) (by decide) h
        · exact r1_keep (.of_below (Below.refl _ _)) (by decide) h
        · exact r1_keep (.of_below (Below.refl _ _)) (by decide) h
        · exact r1_keep (.of_below (Below.refl _ _)) (by decide) h
        · exact r1_keep (.of_below (Below.refl _ _)) (by decide) h
        · exact r1_keep (.of_below (Below.refl _ _)) (by decide) h
        · exact r1_keep (.of_below (Below.refl _ _)) (by decide) h
        · exact r1_keep (.of_below (Below.refl _ _)) (by decide) h
        · exact r1_keep (.of_below (Below.refl _ _)) (by decide) h
        · exact r1_keep (.of_below (Below.refl _ _)) (by decide) h
    refine .cons (o := ⟨some 19, _, _, _, _, _⟩) (ds := [7]) (js := [0, 1, 2, 3, 4, 5, 6, 7, 10, 11, 12]) (ws := [8, 9, 11, 12, 13]) rfl (by kernel_rfl) (by kernel_rfl) (by kernel_rfl) ?_ ?_
    · intro x' q hG hd hin K hK
      have HIN := Lib.hid hin
      clear hin
      have d7 : x' 7 = (.pointer (some ⟨tb, 0, none⟩)) := hd 7 (by simp)
      have e12 : x' 12 = undef := HIN.out 12 (by decide)
      have hB := hG.first e12
      have HE := Lib.hid e12
      clear e12
      refine HidG.mk ?_
      simp only [putsA, Act.put, List.setIfInBounds_toArray, List.set_cons_zero, List.set_cons_succ, Nat.reduceAdd, Nat.zero_add] at hK ⊢
      rw [d7] at hK ⊢
      go_simp
      refine hK _ _ (by exact .to hB HE.out (Below.refl _ _) (by decide)) (fun j hj h => ?_) (by exact rfl)
      · simp only [List.mem_cons, List.not_mem_nil, or_false] at hj
        rcases hj with rfl | rfl | rfl | rfl | rfl | rfl | rfl | rfl | rfl | rfl | rfl
        · exact r1_keep (.of_below (Below.refl _ _)) (by decide) h
        · exact r1_keep (.of_below (Below.refl _ _)) (by decide) h
        · exact r1_keep (.of_below (Below.refl _ _)) (by decide) h
        · exact r1_keep (.of_below (Below.refl _ _)) (by decide) h
        · exact r1_keep (.of_below (Below.refl _ _)) (by decide) h
        · exact r1_keep (.of_below (Below.refl _ _)) (by decide) h
        · exact r1_keep (.of_below (Below.refl _ _)) (by decide) h
        · exact r1_keep (.of_below (Below.refl _ _)) (by decide) h
        · exact r1_keep (.of_below (Below.refl _ _)) (by decide) h
        · exact r1_keep (.of_below (Below.refl _ _)) (by decide) h
        · exact r1_keep (.of_below (Below.refl _ _)) (by decide) h
    refine .cons (o := ⟨some 20, _, _, _, _, _⟩) (ds := [8]) (js := [0, 1, 2, 3, 4, 5, 6, 7, 8, 10, 12]) (ws := [9, 11, 12, 13]) rfl (by kernel_rfl) (by kernel_rfl) (by kernel_rfl) ?_ ?_
    · intro x' q hG hd hin K hK
      have HIN := Lib.hid hin
      clear hin
      have d8 : x' 8 = (.pointer (some ⟨tb, 0, none⟩)) := hd 8 (by simp)
      have e12 : x' 12 = undef := HIN.out 12 (by decide)
      have hB := hG.first e12
      have HE := Lib.hid e12
      clear e12
      have k0 := H0.out q hB
      refine HidG.mk ?_
      simp only [putsA, Act.put, List.setIfInBounds_toArray, List.set_cons_zero, List.set_cons_succ, Nat.reduceAdd, Nat.zero_add] at hK ⊢
      rw [d8] at hK ⊢
      go_simp
      refine hK _ _ (by exact .to hB HE.out (Below.refl _ _) (by decide)) (fun j hj h => ?_) (by exact rfl)
      · simp only [List.mem_cons, List.not_mem_nil, or_false] at hj
        rcases hj with rfl | rfl | rfl | rfl | rfl | rfl | rfl | rfl | rfl | rfl | rfl
        · exact r1_keep (.of_below (Below.refl _ _)) (by decide) h
        · exact r1_keep (.of_below (Below.refl _ _)) (by decide) h
        · exact r1_keep (.of_below (Below.refl _ _)) (by decide) h
        · exact r1_keep (.of_below (Below.refl _ _)) (by decide) h
        · exact r1_keep (.of_below (Below.refl _ _)) (by decide) h
        · exact r1_keep (.of_below (Below.refl _ _)) (by decide) h
        · exact r1_keep (.of_below (Below.refl _ _)) (by decide) h
        · exact r1_keep (.of_below (Below.refl _ _)) (by decide) h
        · exact r1_keep (.of_below (Below.refl _ _)) (by decide) h
        · exact r1_keep (.of_below (Below.refl _ _)) (by decide) h
        · exact r1_keep (.of_below (Below.refl _ _)) (by decide) h
    refine .cons (o := ⟨some 21, _, _, _, _, _⟩) (ds := []) (js := [0, 1, 2, 3, 4, 5, 6, 7, 8, 9, 12]) (ws := [10, 11, 12, 13]) rfl (by kernel_rfl) (by kernel_rfl) (by kernel_rfl) ?_ ?_
    · intro x' q hG hd hin K hK
      have HIN := Lib.hid hin
      clear hin
      have e12 : x' 12 = undef := HIN.out 12 (by decide)
      have hB := hG.first e12
      have HE := Lib.hid e12
      clear e12
      obtain ⟨k0, k1, k2⟩ := HB.out q hB
      refine HidG.mk ?_
      simp only [putsA, Act.put, List.setIfInBounds_toArray, List.set_cons_zero, List.set_cons_succ, Nat.reduceAdd, Nat.zero_add] at hK ⊢
      go_simp
      refine hK _ _ (by exact .to hB HE.out (Below.refl _ _) (by decide)) (fun j hj h => ?_) (by exact rfl)
      · simp only [List.mem_cons, List.not_mem_nil, or_false] at hj
        rcases hj with rfl | rfl | rfl | rfl | rfl | rfl | rfl | rfl | rfl | rfl | rfl
        · exact r1_keep (.of_below (Below.refl _ _)) (by decide) h
        · exact r1_keep (.of_below (Below.refl _ _)) (by decide) h
        · exact r1_keep (.of_below (Below.refl _ _)) (by decide) h
        · exact r1_keep (.of_below (Below.refl _ _)) (by decide) h
        · exact r1_keep (.of_below (Below.refl _ _)) (by decide) h
        · exact r1_keep (.of_below (Below.refl _ _)) (by decide) h
        · exact r1_keep (.of_below (Below.refl _ _)) (by decide) h
        · exact r1_keep (.of_below (Below.refl _ _)) (by decide) h
        · exact r1_keep (.of_below (Below.refl _ _)) (by decide) h
        · exact r1_keep (.of_below (Below.refl _ _)) (by decide) h
        · exact r1_keep (.of_below (Below.refl _ _)) (by decide) h
    refine .cons (o := ⟨some 22, _, _, _, _, _⟩) (ds := [9, 10, 5]) (js := [0, 1, 2, 3, 4, 5, 6, 7, 8, 9, 10]) (ws := [11, 12, 13]) rfl (by kernel_rfl) (by kernel_rfl) (by kernel_rfl) ?_ ?_
    · intro x' q hG hd hin K hK
      have HIN := Lib.hid hin
      clear hin
      have d9 : x' 9 = (.pointer (some ⟨sb, 0, none⟩)) := hd 9 (by simp)
      have d10 : x' 10 = (.agg #[.int .i64 Fb, .int .i64 Gb, .slice Ab Mb cb]) := hd 10 (by simp)
      have e12 : x' 12 = undef := HIN.out 12 (by decide)
      have hB := hG.first e12
      have HE := Lib.hid e12
      clear e12
      refine HidG.mk ?_
      simp only [putsA, Act.put, List.setIfInBounds_toArray, List.set_cons_zero, List.set_cons_succ, Nat.reduceAdd, Nat.zero_add] at hK ⊢
      rw [d9, d10] at hK ⊢
      go_simp
      (with_reducible refine (HY.out _ hB).mono ?_)
      rintro e q1 ⟨tv, rfl, ht, hb⟩
      refine hK _ _ (by exact .to hB HE.out hb (by decide)) (fun j hj h => ?_) (by exact ht)
      · simp only [List.mem_cons, List.not_mem_nil, or_false] at hj
        rcases hj with rfl | rfl | rfl | rfl | rfl | rfl | rfl | rfl | rfl | rfl | rfl
        · exact r1_keep (.of_below hb) (by decide) h
        · exact r1_keep (.of_below hb) (by decide) h
        · exact r1_keep (.of_below hb) (by decide) h
        · exact r1_keep (.of_below hb) (by decide) h
        · exact r1_keep (.of_below hb) (by decide) h
        · exact r1_keep (.of_below hb) (by decide) h
        · exact r1_keep (.of_below hb) (by decide) h
        · exact r1_keep (.of_below hb) (by decide) h
        · exact r1_keep (.of_below hb) (by decide) h
        · exact r1_keep (.of_below hb) (by decide) h
        · exact r1_keep (.of_below hb) (by decide) h
    refine .cons (o := ⟨none, _, _, _, _, _⟩) (ds := [5, 11, 0, 1, 2, 3, 4, 5]) (js := [0, 1, 2, 3, 4, 5, 6, 7, 8, 9, 10, 11]) (ws := [12, 13]) rfl (by kernel_rfl) (by kernel_rfl) (by kernel_rfl) ?_ .nil
    · intro x' q hG hd hin K hK
      have HIN := Lib.hid hin
      clear hin
      have d0 : x' 0 = (.pointer (some ⟨tb, 0, none⟩)) := hd 0 (by simp)
      have d1 : x' 1 = (.pointer (some ⟨tb, 0, none⟩)) := hd 1 (by simp)
      have d2 : x' 2 = (.pointer (some ⟨tb, 0, none⟩)) := hd 2 (by simp)
      have d3 : x' 3 = (.pointer (some ⟨sb, 0, none⟩)) := hd 3 (by simp)
      have d4 : x' 4 = (.agg #[.int .i64 Fa, .int .i64 Ga, .slice Aa Ma ca]) := hd 4 (by simp)
      have e12 : x' 12 = undef := HIN.out 12 (by decide)
      have hB := hG.first e12
      have HE := Lib.hid e12
      clear e12
      have d5 : ZAt P q t (x' 5) := hd 5 (by simp)
      obtain ⟨A, c, e6⟩ := d5.form
      rw [e6] at d5
      have hOB := hOa.on hB
      obtain ⟨⟨u0, e0⟩, ⟨u1, e1⟩, ⟨u2, e2⟩, f0, f1, f2⟩ := hOB
      refine HidG.mk ?_
      simp only [putsA, Act.put, List.setIfInBounds_toArray, List.set_cons_zero, List.set_cons_succ, Nat.reduceAdd, Nat.zero_add] at hK ⊢
      rw [d0, d1, d2, d3, d4] at hK ⊢
      rw [e6] at hK ⊢
      go_simp
      refine hK (.bool true) _ (by exact .inr ⟨upd_self, q, A, c, hB, rfl, d5⟩) (fun j hj h => ?_) (by exact upd_self)
      · simp only [List.mem_cons, List.not_mem_nil, or_false] at hj
        rcases hj with rfl | rfl | rfl | rfl | rfl | rfl | rfl | rfl | rfl | rfl | rfl | rfl
        · exact r1_keep (put3_keeps hPa) (by decide) h
        · exact r1_keep (put3_keeps hPa) (by decide) h
        · exact r1_keep (put3_keeps hPa) (by decide) h
        · exact r1_keep (put3_keeps hPa) (by decide) h
        · exact r1_keep (put3_keeps hPa) (by decide) h
        · exact r1_keep (put3_keeps hPa) (by decide) h
        · exact r1_keep (put3_keeps hPa) (by decide) h
        · exact r1_keep (put3_keeps hPa) (by decide) h
        · exact r1_keep (put3_keeps hPa) (by decide) h
        · exact r1_keep (put3_keeps hPa) (by decide) h
        · exact r1_keep (put3_keeps hPa) (by decide) h
        · exact r1_keep (put3_keeps hPa) (by decide) h
  · intro x' q hG hd hin K hK
    have HIN := Lib.hid hin
    clear hin
    have d11 : ZAt P q t' (x' 11) := hd 11 (by omega)
    have d12 : x' 12 = .bool true := hd 12 (by omega)
    rcases hG with ⟨h9, _⟩ | ⟨_, q0, A, c, hB, rfl, hzt⟩
    · rw [d12] at h9; cases h9
    obtain ⟨B, d, e6⟩ := d11.form
    rw [e6] at d11
    have hTa := (hOa.on hB).put hzt hPa
    have hOB := (hOb.on hB).block (put3_block (u := .int .i64 (formZ t)) (v := .int .i64 (numZ t)) (z := .slice A (argsZ t) c) (Ne.symm hne))
    have hTb := hOB.put d11 hPb
    have hTa2 := hTa.keep (put3_block (u := .int .i64 (formZ t')) (v := .int .i64 (numZ t')) (z := .slice B (argsZ t') d) hne) (put3_keeps hPb)
    have hBW := put3_below (u := .int .i64 (formZ t')) (v := .int .i64 (numZ t')) (z := .slice B (argsZ t') d) (put3_below (u := .int .i64 (formZ t)) (v := .int .i64 (numZ t)) (z := .slice A (argsZ t) c) (hW.trans (hB.mono h0v)) h0a) h0b
    obtain ⟨⟨u0, e0⟩, ⟨u1, e1⟩, ⟨u2, e2⟩, f0, f1, f2⟩ := hOB
    clear d12
    generalize put3 q0 ga (.int .i64 (formZ t)) (.int .i64 (numZ t)) (.slice A (argsZ t) c) = q at *
    refine HidG.mk ?_
    simp only [putsA, Act.put, List.setIfInBounds_toArray, List.set_cons_zero, List.set_cons_succ, Nat.reduceAdd, Nat.zero_add] at hK ⊢
    rw [e6] at hK ⊢
    go_simp
    exact hK undef _ ⟨A, c, B, d, hTa2, hTb, hBW⟩
  · intro x' q hF
    simp only [putsA, Act.put, List.setIfInBounds_toArray, List.set_cons_zero, List.set_cons_succ, Nat.reduceAdd, Nat.zero_add]
    obtain ⟨A, c, B, d, hB⟩ := hF
    exact hf (x' 0) (x' 1) (x' 2) (x' 3) (x' 4) (x' 5) (x' 6) (x' 7) (x' 8) (x' 9) (x' 10) (x' 11) A c B d q hB
end Go.Proofs.Ytomhojpoaicioaa
