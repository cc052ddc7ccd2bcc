/- unify (chapter 3's solver): its regions that ask for loops. Conditions: those that each theorem names. -/
import Derived.Test.YtomhojpoaicioaaUniS
namespace Go.Proofs.Ytomhojpoaicioaa
open Go.RowKit

def R12 (V : World) (K : Nat → KZ) (j : Nat) (x : Nat → Value) (q : World) : Prop :=
  match K j with
  | .val v => x j = v
  | _ => ∃ xb, x j = .map (some xb) ∧ V.heap.size ≤ xb ∧ (x 12 = undef → MapI Try.prog 3 q xb 0 (seenF fun _ => false))
theorem r12_keep {V q q1 : World} {K : Nat → KZ} {x : Nat → Value} {i j : Nat} {u : Value} (hb : Below q.heap.size q q1) (hj : j ≠ i) (hi : 12 ≠ i) (h : R12 V K j x q) : R12 V K j (updV x i u) q1 := by
  have key : (∃ xb, x j = .map (some xb) ∧ V.heap.size ≤ xb ∧ (x 12 = undef → MapI Try.prog 3 q xb 0 (seenF fun _ => false))) → ∃ xb, updV x i u j = .map (some xb) ∧ V.heap.size ≤ xb ∧ (updV x i u 12 = undef → MapI Try.prog 3 q1 xb 0 (seenF fun _ => false)) := by
    rintro ⟨xb, h1, h2, h3⟩
    exact ⟨xb, (upd_ne hj).trans h1, h2, fun e => (h3 ((upd_ne hi).symm.trans e)).on hb⟩
  unfold R12 at h ⊢
  cases hkj : K j with
  | val v => rw [hkj] at h; exact (upd_ne hj).trans h
  | «at» t => rw [hkj] at h; exact key h
  | box => rw [hkj] at h; exact key h
  | obox => rw [hkj] at h; exact key h
  | held i' t => rw [hkj] at h; exact key h
theorem r12_call {V q q1 : World} {K : Nat → KZ} {x : Nat → Value} {j : Nat} {o : Bool} (hj : j ≠ 12) (h : R12 V K j x q) : R12 V K j (updV x 12 (.bool o)) q1 := by
  have key : (∃ xb, x j = .map (some xb) ∧ V.heap.size ≤ xb ∧ (x 12 = undef → MapI Try.prog 3 q xb 0 (seenF fun _ => false))) → ∃ xb, updV x 12 (.bool o) j = .map (some xb) ∧ V.heap.size ≤ xb ∧ (updV x 12 (.bool o) 12 = undef → MapI Try.prog 3 q1 xb 0 (seenF fun _ => false)) := by
    rintro ⟨xb, h1, h2, h3⟩
    exact ⟨xb, (upd_ne hj).trans h1, h2, fun e => by rw [upd_self] at e; cases e⟩
  unfold R12 at h ⊢
  cases hkj : K j with
  | val v => rw [hkj] at h; exact (upd_ne hj).trans h
  | «at» t => rw [hkj] at h; exact key h
  | box => rw [hkj] at h; exact key h
  | obox => rw [hkj] at h; exact key h
  | held i' t => rw [hkj] at h; exact key h
theorem seen_none : (seenF fun _ => false) = fun _ => none := by funext x; rfl
def F_uni12 (V : World) (o : Bool) (x : Nat → Value) (q : World) : Prop := x 14 = .bool o ∧ Below V.heap.size V q
def K_uni12 (tb sb ga : Nat) (n Fb Gb : Int) (Mb cb : Nat) (Ab : Option Addr) (o : Bool) : Nat → KZ
  | 0 => .val (.pointer (some ⟨ga, 0, none⟩))
  | 1 => .val (.int .i64 1)
  | 2 => .val (.bool true)
  | 3 => .val (.bool true)
  | 4 => .val (.pointer (some ⟨tb, 0, none⟩))
  | 5 => .val (.pointer (some ⟨tb, 0, none⟩))
  | 6 => .val (.pointer (some ⟨tb, 0, none⟩))
  | 7 => .val (.pointer (some ⟨sb, 0, none⟩))
  | 8 => .val (.pointer (some ⟨ga, 1, none⟩))
  | 9 => .val (.int .i64 n)
  | 10 => .val (.agg #[.int .i64 Fb, .int .i64 Gb, .slice Ab Mb cb])
  | 11 => .box
  | 12 => .val (.bool o)
  | 13 => .val (.bool o)
  | _ => .val undef
set_option maxRecDepth 100000 in
set_option maxHeartbeats 1000000 in
theorem uni12 {V : World} {tb sb ga gb : Nat} {n Fb Gb : Int} {Mb cb : Nat} {Ab : Option Addr} {o : Bool} (H0 : Hid (∀ q, Below V.heap.size V q → q.cell? ⟨tb, 0, none⟩ = some (.pointer (some ⟨sb, 0, none⟩)))) (HA : Hid (∀ q, Below V.heap.size V q → q.cell? ⟨ga, 0, none⟩ = some (.int .i64 1) ∧ q.cell? ⟨ga, 1, none⟩ = some (.int .i64 n))) (HB : Hid (∀ q, Below V.heap.size V q → q.cell? ⟨gb, 0, none⟩ = some (.int .i64 Fb) ∧ q.cell? ⟨gb, 1, none⟩ = some (.int .i64 Gb) ∧ q.cell? ⟨gb, 2, none⟩ = some (.slice Ab Mb cb))) (HW : Hid (∀ q xb, Below V.heap.size V q → V.heap.size ≤ xb → MapI Try.prog 3 q xb 0 (seenF fun _ => false) → Calls Try.prog 53 #[.pointer (some ⟨sb, 0, none⟩), .int .i64 n, .agg #[.int .i64 Fb, .int .i64 Gb, .slice Ab Mb cb], .map (some xb)] q (fun e w' => e = .returned (.bool o) ∧ Below xb q w'))) {Q : Exit → Act → World → Prop} {ds : List Deferred} {r1 r2 r3 r4 r5 r6 r9 r10 r11 r12 r13 r14 r15 r16 r17 r18 r19 r20 r21 r22 r23 r24 r25 r26 r27 r28 r29 r30 r31 r32 r33 r34 r35 r36 r37 r38 r39 r40 r41 r42 r43 r44 r45 r46 r47 r48 r49 r50 r51 r52 r53 r54 r55 r56 r57 r58 r59 r60 r61 r62 r63 r64 r65 r66 r67 r68 r69 r70 r71 r72 r73 r74 r75 r76 r77 r78 r79 r80 r81 r82 r83 r84 r86 r87 r88 r89 r90 r91 r92 r93 r94 r95 r96 r97 r98 r99 r100 r101 r102 r103 r104 r105 r106 r107 r108 r109 r110 r111 r112 r113 r114 r115 r116 r117 r118 r119 r120 : Value}
    (hf : ∀ (x0 x1 x2 x3 x4 x5 x6 x7 x8 x9 x10 x11 x12 x13 : Value) (q : World), Below V.heap.size V q → Q .normal ⟨#[.pointer (some ⟨tb, 0, none⟩), r1, r2, r3, r4, r5, r6, .pointer (some ⟨ga, 0, none⟩), .pointer (some ⟨gb, 0, none⟩), r9, r10, r11, r12, r13, r14, r15, r16, r17, r18, r19, r20, r21, r22, r23, r24, r25, r26, r27, r28, r29, r30, r31, r32, r33, r34, r35, r36, r37, r38, r39, r40, r41, r42, r43, r44, r45, r46, r47, r48, r49, r50, r51, r52, r53, r54, r55, r56, r57, r58, r59, r60, r61, r62, r63, r64, r65, r66, r67, r68, r69, r70, r71, .bool o, x0, x1, x2, x3, x4, x5, x6, x7, x8, x9, x10, x11, x12, x13, r87, r88, r89, r90, r91, r92, r93, r94, r95, r96, r97, r98, r99, r100, r101, r102, r103, r104, r105, r106, r107, r108, r109, r110, r111, r112, r113, r114, r115, r116, r117, r118, r119, r120], ds⟩ q) :
    Code.wp Try.prog (Code.region 12 #[{ dst := some 73, op := Op.fieldAddr 49 (Operand.tmp 7) 0, type := 0, pos := "trial.go:27", after := #[], guard := none }, { dst := some 74, op := Op.load 3 (Operand.tmp 73), type := 3, pos := "trial.go:27", after := #[{ on := 0, ground := Ground.data }], guard := none }, { dst := some 75, op := Op.binOp BinOp.eql 3 (Operand.tmp 74) (Operand.const (Value.int IntKind.i64 1)) 3, type := 4, pos := "trial.go:27", after := #[{ on := 1, ground := Ground.data }], guard := none }, { dst := some 76, op := Op.move (Operand.tmp 75), type := 4, pos := "trial.go:27", after := #[{ on := 2, ground := Ground.data }], guard := none }, { dst := some 77, op := Op.move (Operand.tmp 0), type := 101, pos := "trial.go:27", after := #[{ on := 3, ground := Ground.guard }], guard := some (3, true) }, { dst := some 78, op := Op.nilCheck (Operand.tmp 77), type := 0, pos := "trial.go:27", after := #[{ on := 4, ground := Ground.data }, { on := 3, ground := Ground.guard }], guard := some (3, true) }, { dst := some 79, op := Op.fieldAddr 93 (Operand.tmp 78) 0, type := 0, pos := "trial.go:27", after := #[{ on := 5, ground := Ground.data }, { on := 3, ground := Ground.guard }], guard := some (3, true) }, { dst := some 80, op := Op.load 45 (Operand.tmp 79), type := 45, pos := "trial.go:27", after := #[{ on := 6, ground := Ground.data }, { on := 3, ground := Ground.guard }], guard := some (3, true) }, { dst := some 81, op := Op.fieldAddr 49 (Operand.tmp 7) 1, type := 0, pos := "trial.go:27", after := #[{ on := 3, ground := Ground.guard }], guard := some (3, true) }, { dst := some 82, op := Op.load 3 (Operand.tmp 81), type := 3, pos := "trial.go:27", after := #[{ on := 8, ground := Ground.data }, { on := 3, ground := Ground.guard }], guard := some (3, true) }, { dst := some 83, op := Op.load 49 (Operand.tmp 8), type := 49, pos := "trial.go:27", after := #[{ on := 3, ground := Ground.guard }], guard := some (3, true) }, { dst := some 84, op := Op.makeMap 103 none, type := 103, pos := "trial.go:27", after := #[{ on := 3, ground := Ground.guard }], guard := some (3, true) }, { dst := some 85, op := Op.call { callee := Callee.value (Operand.func 53), args := #[Operand.tmp 80, Operand.tmp 82, Operand.tmp 83, Operand.tmp 84], argTypes := #[45, 3, 49, 103] }, type := 4, pos := "trial.go:27", after := #[{ on := 7, ground := Ground.data }, { on := 9, ground := Ground.data }, { on := 10, ground := Ground.data }, { on := 11, ground := Ground.data }, { on := 3, ground := Ground.chain }, { on := 3, ground := Ground.guard }], guard := some (3, true) }, { dst := some 86, op := Op.pick (Operand.tmp 76) (Operand.tmp 85) (Operand.const (Value.bool false)), type := 4, pos := "trial.go:27", after := #[{ on := 3, ground := Ground.data }, { on := 12, ground := Ground.data }], guard := none }, { dst := some 72, op := Op.assign (Operand.tmp 86), type := 4, pos := "trial.go:27", after := #[{ on := 13, ground := Ground.data }, { on := 12, ground := Ground.chain }], guard := none }] true) Q ⟨#[.pointer (some ⟨tb, 0, none⟩), r1, r2, r3, r4, r5, r6, .pointer (some ⟨ga, 0, none⟩), .pointer (some ⟨gb, 0, none⟩), r9, r10, r11, r12, r13, r14, r15, r16, r17, r18, r19, r20, r21, r22, r23, r24, r25, r26, r27, r28, r29, r30, r31, r32, r33, r34, r35, r36, r37, r38, r39, r40, r41, r42, r43, r44, r45, r46, r47, r48, r49, r50, r51, r52, r53, r54, r55, r56, r57, r58, r59, r60, r61, r62, r63, r64, r65, r66, r67, r68, r69, r70, r71, r72, r73, r74, r75, r76, r77, r78, r79, r80, r81, r82, r83, r84, undef, r86, r87, r88, r89, r90, r91, r92, r93, r94, r95, r96, r97, r98, r99, r100, r101, r102, r103, r104, r105, r106, r107, r108, r109, r110, r111, r112, r113, r114, r115, r116, r117, r118, r119, r120], ds⟩ V := by
  refine wp_region_rel (m := 14) (o := ⟨some 72, _, _, _, _, _⟩) (D := [some 73, some 74, some 75, some 76, some 77, some 78, some 79, some 80, some 81, some 82, some 83, some 84, some 85, some 86, some 72]) (G := fun _ q => Below V.heap.size V q) (R := R12 V (K_uni12 tb sb ga n Fb Gb Mb cb Ab o)) (F_uni12 V o) V (by kernel_rfl) (by kernel_rfl) (by kernel_rfl) (by rfl) (by kernel_rfl) (by kernel_rfl) (by kernel_rfl) ?_ ?_ ?_ ?_
  · intro x' hx'
    exact (Below.refl _ _).drew
  · show StepsI _ _ _ _ _ _ _ _ [0, 1, 2, 3, 4, 5, 6, 7, 8, 9, 10, 11, 12, 13]
    refine .cons (o := ⟨some 73, _, _, _, _, _⟩) (ds := []) (js := [2, 3, 4, 5, 6, 7, 8, 9, 10, 11, 12, 13]) (ws := [0, 1, 2, 3, 4, 5, 6, 7, 8, 9, 10, 11, 12, 13, 14]) rfl (by kernel_rfl) (by kernel_rfl) (by kernel_rfl) ?_ ?_
    · intro x' q hG hd hin K hK
      have HIN := Lib.hid hin
      clear hin
      refine HidG.mk ?_
      simp only [putsA, Act.put, List.setIfInBounds_toArray, List.set_cons_zero, List.set_cons_succ, Nat.reduceAdd, Nat.zero_add] at hK ⊢
      go_simp
      refine hK _ _ (by exact hG) (fun j hj h => ?_) (by exact rfl)
      · simp only [List.mem_cons, List.not_mem_nil, or_false] at hj
        rcases hj with rfl | rfl | rfl | rfl | rfl | rfl | rfl | rfl | rfl | rfl | rfl | rfl
        · exact r12_keep (Below.refl _ _) (by decide) (by decide) h
        · exact r12_keep (Below.refl _ _) (by decide) (by decide) h
        · exact r12_keep (Below.refl _ _) (by decide) (by decide) h
        · exact r12_keep (Below.refl _ _) (by decide) (by decide) h
        · exact r12_keep (Below.refl _ _) (by decide) (by decide) h
        · exact r12_keep (Below.refl _ _) (by decide) (by decide) h
        · exact r12_keep (Below.refl _ _) (by decide) (by decide) h
        · exact r12_keep (Below.refl _ _) (by decide) (by decide) h
        · exact r12_keep (Below.refl _ _) (by decide) (by decide) h
        · exact r12_keep (Below.refl _ _) (by decide) (by decide) h
        · exact r12_keep (Below.refl _ _) (by decide) (by decide) h
        · exact r12_keep (Below.refl _ _) (by decide) (by decide) h
    refine .cons (o := ⟨some 74, _, _, _, _, _⟩) (ds := [0]) (js := [0, 3, 4, 5, 6, 7, 8, 9, 10, 11, 12, 13]) (ws := [1, 2, 3, 4, 5, 6, 7, 8, 9, 10, 11, 12, 13, 14]) rfl (by kernel_rfl) (by kernel_rfl) (by kernel_rfl) ?_ ?_
    · intro x' q hG hd hin K hK
      have HIN := Lib.hid hin
      clear hin
      have d0 : x' 0 = (.pointer (some ⟨ga, 0, none⟩)) := hd 0 (by simp)
      obtain ⟨k0, k1⟩ := HA.out q hG
      refine HidG.mk ?_
      simp only [putsA, Act.put, List.setIfInBounds_toArray, List.set_cons_zero, List.set_cons_succ, Nat.reduceAdd, Nat.zero_add] at hK ⊢
      rw [d0] at hK ⊢
      go_simp
      refine hK _ _ (by exact hG) (fun j hj h => ?_) (by exact rfl)
      · simp only [List.mem_cons, List.not_mem_nil, or_false] at hj
        rcases hj with rfl | rfl | rfl | rfl | rfl | rfl | rfl | rfl | rfl | rfl | rfl | rfl
        · exact r12_keep (Below.refl _ _) (by decide) (by decide) h
        · exact r12_keep (Below.refl _ _) (by decide) (by decide) h
        · exact r12_keep (Below.refl _ _) (by decide) (by decide) h
        · exact r12_keep (Below.refl _ _) (by decide) (by decide) h
        · exact r12_keep (Below.refl _ _) (by decide) (by decide) h
        · exact r12_keep (Below.refl _ _) (by decide) (by decide) h
        · exact r12_keep (Below.refl _ _) (by decide) (by decide) h
        · exact r12_keep (Below.refl _ _) (by decide) (by decide) h
        · exact r12_keep (Below.refl _ _) (by decide) (by decide) h
        · exact r12_keep (Below.refl _ _) (by decide) (by decide) h
        · exact r12_keep (Below.refl _ _) (by decide) (by decide) h
        · exact r12_keep (Below.refl _ _) (by decide) (by decide) h
    refine .cons (o := ⟨some 75, _, _, _, _, _⟩) (ds := [1]) (js := [0, 1, 4, 5, 6, 7, 8, 9, 10, 11, 12, 13]) (ws := [2, 3, 4, 5, 6, 7, 8, 9, 10, 11, 12, 13, 14]) rfl (by kernel_rfl) (by kernel_rfl) (by kernel_rfl) ?_ ?_
    · intro x' q hG hd hin K hK
      have HIN := Lib.hid hin
      clear hin
      have d1 : x' 1 = (.int .i64 1) := hd 1 (by simp)
      refine HidG.mk ?_
      simp only [putsA, Act.put, List.setIfInBounds_toArray, List.set_cons_zero, List.set_cons_succ, Nat.reduceAdd, Nat.zero_add] at hK ⊢
      rw [d1] at hK ⊢
      go_simp
      refine hK _ _ (by exact hG) (fun j hj h => ?_) (by exact rfl)
      · simp only [List.mem_cons, List.not_mem_nil, or_false] at hj
        rcases hj with rfl | rfl | rfl | rfl | rfl | rfl | rfl | rfl | rfl | rfl | rfl | rfl
        · exact r12_keep (Below.refl _ _) (by decide) (by decide) h
        · exact r12_keep (Below.refl _ _) (by decide) (by decide) h
        · exact r12_keep (Below.refl _ _) (by decide) (by decide) h
        · exact r12_keep (Below.refl _ _) (by decide) (by decide) h
        · exact r12_keep (Below.refl _ _) (by decide) (by decide) h
        · exact r12_keep (Below.refl _ _) (by decide) (by decide) h
        · exact r12_keep (Below.refl _ _) (by decide) (by decide) h
        · exact r12_keep (Below.refl _ _) (by decide) (by decide) h
        · exact r12_keep (Below.refl _ _) (by decide) (by decide) h
        · exact r12_keep (Below.refl _ _) (by decide) (by decide) h
        · exact r12_keep (Below.refl _ _) (by decide) (by decide) h
        · exact r12_keep (Below.refl _ _) (by decide) (by decide) h
    refine .cons (o := ⟨some 76, _, _, _, _, _⟩) (ds := [2]) (js := [0, 1, 2]) (ws := [3, 4, 5, 6, 7, 8, 9, 10, 11, 12, 13, 14]) rfl (by kernel_rfl) (by kernel_rfl) (by kernel_rfl) ?_ ?_
    · intro x' q hG hd hin K hK
      have HIN := Lib.hid hin
      clear hin
      have d2 : x' 2 = (.bool true) := hd 2 (by simp)
      refine HidG.mk ?_
      simp only [putsA, Act.put, List.setIfInBounds_toArray, List.set_cons_zero, List.set_cons_succ, Nat.reduceAdd, Nat.zero_add] at hK ⊢
      rw [d2] at hK ⊢
      go_simp
      refine hK _ _ (by exact hG) (fun j hj h => ?_) (by exact rfl)
      · simp only [List.mem_cons, List.not_mem_nil, or_false] at hj
        rcases hj with rfl | rfl | rfl
        · exact r12_keep (Below.refl _ _) (by decide) (by decide) h
        · exact r12_keep (Below.refl _ _) (by decide) (by decide) h
        · exact r12_keep (Below.refl _ _) (by decide) (by decide) h
    refine .cons (o := ⟨some 77, _, _, _, _, _⟩) (ds := [3]) (js := [0, 1, 2, 3, 6, 7, 8, 9, 10, 11, 12, 13]) (ws := [4, 5, 6, 7, 12, 13, 14]) rfl (by kernel_rfl) (by kernel_rfl) (by kernel_rfl) ?_ ?_
    · intro x' q hG hd hin K hK
      have HIN := Lib.hid hin
      clear hin
      have d3 : x' 3 = (.bool true) := hd 3 (by simp)
      refine HidG.mk ?_
      simp only [putsA, Act.put, List.setIfInBounds_toArray, List.set_cons_zero, List.set_cons_succ, Nat.reduceAdd, Nat.zero_add] at hK ⊢
      rw [d3] at hK ⊢
      go_simp
      refine hK _ _ (by exact hG) (fun j hj h => ?_) (by exact rfl)
      · simp only [List.mem_cons, List.not_mem_nil, or_false] at hj
        rcases hj with rfl | rfl | rfl | rfl | rfl | rfl | rfl | rfl | rfl | rfl | rfl | rfl
        · exact r12_keep (Below.refl _ _) (by decide) (by decide) h
        · exact r12_keep (Below.refl _ _) (by decide) (by decide) h
        · exact r12_keep (Below.refl _ _) (by decide) (by decide) h
        · exact r12_keep (Below.refl _ _) (by decide) (by decide) h
        · exact r12_keep (Below.refl _ _) (by decide) (by decide) h
        · exact r12_keep (Below.refl _ _) (by decide) (by decide) h
        · exact r12_keep (Below.refl _ _) (by decide) (by decide) h
        · exact r12_keep (Below.refl _ _) (by decide) (by decide) h
        · exact r12_keep (Below.refl _ _) (by decide) (by decide) h
        · exact r12_keep (Below.refl _ _) (by decide) (by decide) h
        · exact r12_keep (Below.refl _ _) (by decide) (by decide) h
        · exact r12_keep (Below.refl _ _) (by decide) (by decide) h
    refine .cons (o := ⟨some 78, _, _, _, _, _⟩) (ds := [4, 3]) (js := [0, 1, 2, 3, 4, 7, 8, 9, 10, 11, 12, 13]) (ws := [5, 6, 7, 12, 13, 14]) rfl (by kernel_rfl) (by kernel_rfl) (by kernel_rfl) ?_ ?_
    · intro x' q hG hd hin K hK
      have HIN := Lib.hid hin
      clear hin
      have d3 : x' 3 = (.bool true) := hd 3 (by simp)
      have d4 : x' 4 = (.pointer (some ⟨tb, 0, none⟩)) := hd 4 (by simp)
      refine HidG.mk ?_
      simp only [putsA, Act.put, List.setIfInBounds_toArray, List.set_cons_zero, List.set_cons_succ, Nat.reduceAdd, Nat.zero_add] at hK ⊢
      rw [d3, d4] at hK ⊢
      go_simp
      refine hK _ _ (by exact hG) (fun j hj h => ?_) (by exact rfl)
      · simp only [List.mem_cons, List.not_mem_nil, or_false] at hj
        rcases hj with rfl | rfl | rfl | rfl | rfl | rfl | rfl | rfl | rfl | rfl | rfl | rfl
        · exact r12_keep (Below.refl _ _) (by decide) (by decide) h
        · exact r12_keep (Below.refl _ _) (by decide) (by decide) h
        · exact r12_keep (Below.refl _ _) (by decide) (by decide) h
        · exact r12_keep (Below.refl _ _) (by decide) (by decide) h
        · exact r12_keep (Below.refl _ _) (by decide) (by decide) h
        · exact r12_keep (Below.refl _ _) (by decide) (by decide) h
        · exact r12_keep (Below.refl _ _) (by decide) (by decide) h
        · exact r12_keep (Below.refl _ _) (by decide) (by decide) h
        · exact r12_keep (Below.refl _ _) (by decide) (by decide) h
        · exact r12_keep (Below.refl _ _) (by decide) (by decide) h
        · exact r12_keep (Below.refl _ _) (by decide) (by decide) h
        · exact r12_keep (Below.refl _ _) (by decide) (by decide) h
    refine .cons (o := ⟨some 79, _, _, _, _, _⟩) (ds := [5, 3]) (js := [0, 1, 2, 3, 4, 5, 8, 9, 10, 11, 12, 13]) (ws := [6, 7, 12, 13, 14]) rfl (by kernel_rfl) (by kernel_rfl) (by kernel_rfl) ?_ ?_
    · intro x' q hG hd hin K hK
      have HIN := Lib.hid hin
      clear hin
      have d3 : x' 3 = (.bool true) := hd 3 (by simp)
      have d5 : x' 5 = (.pointer (some ⟨tb, 0, none⟩)) := hd 5 (by simp)
      refine HidG.mk ?_
      simp only [putsA, Act.put, List.setIfInBounds_toArray, List.set_cons_zero, List.set_cons_succ, Nat.reduceAdd, Nat.zero_add] at hK ⊢
      rw [d3, d5] at hK ⊢
      go_simp
      refine hK _ _ (by exact hG) (fun j hj h => ?_) (by exact rfl)
      · simp only [List.mem_cons, List.not_mem_nil, or_false] at hj
        rcases hj with rfl | rfl | rfl | rfl | rfl | rfl | rfl | rfl | rfl | rfl | rfl | rfl
        · exact r12_keep (Below.refl _ _) (by decide) (by decide) h
        · exact r12_keep (Below.refl _ _) (by decide) (by decide) h
        · exact r12_keep (Below.refl _ _) (by decide) (by decide) h
        · exact r12_keep (Below.refl _ _) (by decide) (by decide) h
        · exact r12_keep (Below.refl _ _) (by decide) (by decide) h
        · exact r12_keep (Below.refl _ _) (by decide) (by decide) h
        · exact r12_keep (Below.refl _ _) (by decide) (by decide) h
        · exact r12_keep (Below.refl _ _) (by decide) (by decide) h
        · exact r12_keep (Below.refl _ _) (by decide) (by decide) h
        · exact r12_keep (Below.refl _ _) (by decide) (by decide) h
        · exact r12_keep (Below.refl _ _) (by decide) (by decide) h
        · exact r12_keep (Below.refl _ _) (by decide) (by decide) h
    refine .cons (o := ⟨some 80, _, _, _, _, _⟩) (ds := [6, 3]) (js := [0, 1, 2, 3, 4, 5, 6, 8, 9, 10, 11, 13]) (ws := [7, 12, 13, 14]) rfl (by kernel_rfl) (by kernel_rfl) (by kernel_rfl) ?_ ?_
    · intro x' q hG hd hin K hK
      have HIN := Lib.hid hin
      clear hin
      have d3 : x' 3 = (.bool true) := hd 3 (by simp)
      have d6 : x' 6 = (.pointer (some ⟨tb, 0, none⟩)) := hd 6 (by simp)
      have k0 := H0.out q hG
      refine HidG.mk ?_
      simp only [putsA, Act.put, List.setIfInBounds_toArray, List.set_cons_zero, List.set_cons_succ, Nat.reduceAdd, Nat.zero_add] at hK ⊢
      rw [d3, d6] at hK ⊢
      go_simp
      refine hK _ _ (by exact hG) (fun j hj h => ?_) (by exact rfl)
      · simp only [List.mem_cons, List.not_mem_nil, or_false] at hj
        rcases hj with rfl | rfl | rfl | rfl | rfl | rfl | rfl | rfl | rfl | rfl | rfl | rfl
        · exact r12_keep (Below.refl _ _) (by decide) (by decide) h
        · exact r12_keep (Below.refl _ _) (by decide) (by decide) h
        · exact r12_keep (Below.refl _ _) (by decide) (by decide) h
        · exact r12_keep (Below.refl _ _) (by decide) (by decide) h
        · exact r12_keep (Below.refl _ _) (by decide) (by decide) h
        · exact r12_keep (Below.refl _ _) (by decide) (by decide) h
        · exact r12_keep (Below.refl _ _) (by decide) (by decide) h
        · exact r12_keep (Below.refl _ _) (by decide) (by decide) h
        · exact r12_keep (Below.refl _ _) (by decide) (by decide) h
        · exact r12_keep (Below.refl _ _) (by decide) (by decide) h
        · exact r12_keep (Below.refl _ _) (by decide) (by decide) h
        · exact r12_keep (Below.refl _ _) (by decide) (by decide) h
    refine .cons (o := ⟨some 81, _, _, _, _, _⟩) (ds := [3]) (js := [0, 1, 2, 3, 4, 5, 6, 7, 10, 11, 12, 13]) (ws := [8, 9, 12, 13, 14]) rfl (by kernel_rfl) (by kernel_rfl) (by kernel_rfl) ?_ ?_
    · intro x' q hG hd hin K hK
      have HIN := Lib.hid hin
      clear hin
      have d3 : x' 3 = (.bool true) := hd 3 (by simp)
      refine HidG.mk ?_
      simp only [putsA, Act.put, List.setIfInBounds_toArray, List.set_cons_zero, List.set_cons_succ, Nat.reduceAdd, Nat.zero_add] at hK ⊢
      rw [d3] at hK ⊢
      go_simp
      refine hK _ _ (by exact hG) (fun j hj h => ?_) (by exact rfl)
      · simp only [List.mem_cons, List.not_mem_nil, or_false] at hj
        rcases hj with rfl | rfl | rfl | rfl | rfl | rfl | rfl | rfl | rfl | rfl | rfl | rfl
        · exact r12_keep (Below.refl _ _) (by decide) (by decide) h
        · exact r12_keep (Below.refl _ _) (by decide) (by decide) h
        · exact r12_keep (Below.refl _ _) (by decide) (by decide) h
        · exact r12_keep (Below.refl _ _) (by decide) (by decide) h
        · exact r12_keep (Below.refl _ _) (by decide) (by decide) h
        · exact r12_keep (Below.refl _ _) (by decide) (by decide) h
        · exact r12_keep (Below.refl _ _) (by decide) (by decide) h
        · exact r12_keep (Below.refl _ _) (by decide) (by decide) h
        · exact r12_keep (Below.refl _ _) (by decide) (by decide) h
        · exact r12_keep (Below.refl _ _) (by decide) (by decide) h
        · exact r12_keep (Below.refl _ _) (by decide) (by decide) h
        · exact r12_keep (Below.refl _ _) (by decide) (by decide) h
    refine .cons (o := ⟨some 82, _, _, _, _, _⟩) (ds := [8, 3]) (js := [0, 1, 2, 3, 4, 5, 6, 7, 8, 10, 11, 13]) (ws := [9, 12, 13, 14]) rfl (by kernel_rfl) (by kernel_rfl) (by kernel_rfl) ?_ ?_
    · intro x' q hG hd hin K hK
      have HIN := Lib.hid hin
      clear hin
      have d3 : x' 3 = (.bool true) := hd 3 (by simp)
      have d8 : x' 8 = (.pointer (some ⟨ga, 1, none⟩)) := hd 8 (by simp)
      obtain ⟨k0, k1⟩ := HA.out q hG
      refine HidG.mk ?_
      simp only [putsA, Act.put, List.setIfInBounds_toArray, List.set_cons_zero, List.set_cons_succ, Nat.reduceAdd, Nat.zero_add] at hK ⊢
      rw [d3, d8] at hK ⊢
      go_simp
      refine hK _ _ (by exact hG) (fun j hj h => ?_) (by exact rfl)
      · simp only [List.mem_cons, List.not_mem_nil, or_false] at hj
        rcases hj with rfl | rfl | rfl | rfl | rfl | rfl | rfl | rfl | rfl | rfl | rfl | rfl
        · exact r12_keep (Below.refl _ _) (by decide) (by decide) h
        · exact r12_keep (Below.refl _ _) (by decide) (by decide) h
        · exact r12_keep (Below.refl _ _) (by decide) (by decide) h
        · exact r12_keep (Below.refl _ _) (by decide) (by decide) h
        · exact r12_keep (Below.refl _ _) (by decide) (by decide) h
        · exact r12_keep (Below.refl _ _) (by decide) (by decide) h
        · exact r12_keep (Below.refl _ _) (by decide) (by decide) h
        · exact r12_keep (Below.refl _ _) (by decide) (by decide) h
        · exact r12_keep (Below.refl _ _) (by decide) (by decide) h
        · exact r12_keep (Below.refl _ _) (by decide) (by decide) h
        · exact r12_keep (Below.refl _ _) (by decide) (by decide) h
        · exact r12_keep (Below.refl _ _) (by decide) (by decide) h
    refine .cons (o := ⟨some 83, _, _, _, _, _⟩) (ds := [3]) (js := [0, 1, 2, 3, 4, 5, 6, 7, 8, 9, 11, 13]) (ws := [10, 12, 13, 14]) rfl (by kernel_rfl) (by kernel_rfl) (by kernel_rfl) ?_ ?_
    · intro x' q hG hd hin K hK
      have HIN := Lib.hid hin
      clear hin
      have d3 : x' 3 = (.bool true) := hd 3 (by simp)
      obtain ⟨k0, k1, k2⟩ := HB.out q hG
      refine HidG.mk ?_
      simp only [putsA, Act.put, List.setIfInBounds_toArray, List.set_cons_zero, List.set_cons_succ, Nat.reduceAdd, Nat.zero_add] at hK ⊢
      rw [d3] at hK ⊢
      go_simp
      refine hK _ _ (by exact hG) (fun j hj h => ?_) (by exact rfl)
      · simp only [List.mem_cons, List.not_mem_nil, or_false] at hj
        rcases hj with rfl | rfl | rfl | rfl | rfl | rfl | rfl | rfl | rfl | rfl | rfl | rfl
        · exact r12_keep (Below.refl _ _) (by decide) (by decide) h
        · exact r12_keep (Below.refl _ _) (by decide) (by decide) h
        · exact r12_keep (Below.refl _ _) (by decide) (by decide) h
        · exact r12_keep (Below.refl _ _) (by decide) (by decide) h
        · exact r12_keep (Below.refl _ _) (by decide) (by decide) h
        · exact r12_keep (Below.refl _ _) (by decide) (by decide) h
        · exact r12_keep (Below.refl _ _) (by decide) (by decide) h
        · exact r12_keep (Below.refl _ _) (by decide) (by decide) h
        · exact r12_keep (Below.refl _ _) (by decide) (by decide) h
        · exact r12_keep (Below.refl _ _) (by decide) (by decide) h
        · exact r12_keep (Below.refl _ _) (by decide) (by decide) h
        · exact r12_keep (Below.refl _ _) (by decide) (by decide) h
    refine .cons (o := ⟨some 84, _, _, _, _, _⟩) (ds := [3]) (js := [0, 1, 2, 3, 4, 5, 6, 7, 8, 9, 10, 13]) (ws := [11, 12, 13, 14]) rfl (by kernel_rfl) (by kernel_rfl) (by kernel_rfl) ?_ ?_
    · intro x' q hG hd hin K hK
      have HIN := Lib.hid hin
      clear hin
      have d3 : x' 3 = (.bool true) := hd 3 (by simp)
      have hmm := @run_makeMap Try.prog
      refine HidG.mk ?_
      simp only [putsA, Act.put, List.setIfInBounds_toArray, List.set_cons_zero, List.set_cons_succ, Nat.reduceAdd, Nat.zero_add] at hK ⊢
      rw [d3] at hK ⊢
      go_simp
      refine hK _ _ (by exact hG.trans ((below_new q _).mono hG.size)) (fun j hj h => ?_) (by exact ⟨q.heap.size, upd_self, hG.size, fun _ => by rw [seen_none]; exact MapI.made Try.prog 3 q⟩)
      · simp only [List.mem_cons, List.not_mem_nil, or_false] at hj
        rcases hj with rfl | rfl | rfl | rfl | rfl | rfl | rfl | rfl | rfl | rfl | rfl | rfl
        · exact r12_keep (below_new q _) (by decide) (by decide) h
        · exact r12_keep (below_new q _) (by decide) (by decide) h
        · exact r12_keep (below_new q _) (by decide) (by decide) h
        · exact r12_keep (below_new q _) (by decide) (by decide) h
        · exact r12_keep (below_new q _) (by decide) (by decide) h
        · exact r12_keep (below_new q _) (by decide) (by decide) h
        · exact r12_keep (below_new q _) (by decide) (by decide) h
        · exact r12_keep (below_new q _) (by decide) (by decide) h
        · exact r12_keep (below_new q _) (by decide) (by decide) h
        · exact r12_keep (below_new q _) (by decide) (by decide) h
        · exact r12_keep (below_new q _) (by decide) (by decide) h
        · exact r12_keep (below_new q _) (by decide) (by decide) h
    refine .cons (o := ⟨some 85, _, _, _, _, _⟩) (ds := [7, 9, 10, 11, 3, 3]) (js := [0, 1, 2, 3, 4, 5, 6, 7, 8, 9, 10, 11]) (ws := [12, 13, 14]) rfl (by kernel_rfl) (by kernel_rfl) (by kernel_rfl) ?_ ?_
    · intro x' q hG hd hin K hK
      have HIN := Lib.hid hin
      clear hin
      have d3 : x' 3 = (.bool true) := hd 3 (by simp)
      have d7 : x' 7 = (.pointer (some ⟨sb, 0, none⟩)) := hd 7 (by simp)
      have d9 : x' 9 = (.int .i64 n) := hd 9 (by simp)
      have d10 : x' 10 = (.agg #[.int .i64 Fb, .int .i64 Gb, .slice Ab Mb cb]) := hd 10 (by simp)
      have d11 : ∃ xb, x' 11 = .map (some xb) ∧ V.heap.size ≤ xb ∧ (x' 12 = undef → MapI Try.prog 3 q xb 0 (seenF fun _ => false)) := hd 11 (by simp)
      obtain ⟨xb, d11, hxb, hmap⟩ := d11
      have HC := Lib.hid (HW.out q xb hG hxb (hmap (HIN.out 12 (by decide))))
      clear hmap
      refine HidG.mk ?_
      simp only [putsA, Act.put, List.setIfInBounds_toArray, List.set_cons_zero, List.set_cons_succ, Nat.reduceAdd, Nat.zero_add] at hK ⊢
      rw [d3, d7, d9, d10] at hK ⊢
      rw [d11] at hK ⊢
      go_simp
      (with_reducible refine HC.out.mono ?_)
      rintro e q1 ⟨rfl, hb⟩
      refine hK _ _ (by exact hG.trans (hb.mono hxb)) (fun j hj h => ?_) (by exact rfl)
      · simp only [List.mem_cons, List.not_mem_nil, or_false] at hj
        rcases hj with rfl | rfl | rfl | rfl | rfl | rfl | rfl | rfl | rfl | rfl | rfl | rfl
        · exact r12_call (by decide) h
        · exact r12_call (by decide) h
        · exact r12_call (by decide) h
        · exact r12_call (by decide) h
        · exact r12_call (by decide) h
        · exact r12_call (by decide) h
        · exact r12_call (by decide) h
        · exact r12_call (by decide) h
        · exact r12_call (by decide) h
        · exact r12_call (by decide) h
        · exact r12_call (by decide) h
        · exact r12_call (by decide) h
    refine .cons (o := ⟨some 86, _, _, _, _, _⟩) (ds := [3, 12]) (js := [0, 1, 2, 3, 4, 5, 6, 7, 8, 9, 10, 11, 12]) (ws := [13, 14]) rfl (by kernel_rfl) (by kernel_rfl) (by kernel_rfl) ?_ .nil
    · intro x' q hG hd hin K hK
      have HIN := Lib.hid hin
      clear hin
      have d3 : x' 3 = (.bool true) := hd 3 (by simp)
      have d12 : x' 12 = (.bool o) := hd 12 (by simp)
      refine HidG.mk ?_
      simp only [putsA, Act.put, List.setIfInBounds_toArray, List.set_cons_zero, List.set_cons_succ, Nat.reduceAdd, Nat.zero_add] at hK ⊢
      rw [d3, d12] at hK ⊢
      go_simp
      refine hK _ _ (by exact hG) (fun j hj h => ?_) (by exact rfl)
      · simp only [List.mem_cons, List.not_mem_nil, or_false] at hj
        rcases hj with rfl | rfl | rfl | rfl | rfl | rfl | rfl | rfl | rfl | rfl | rfl | rfl | rfl
        · exact r12_keep (Below.refl _ _) (by decide) (by decide) h
        · exact r12_keep (Below.refl _ _) (by decide) (by decide) h
        · exact r12_keep (Below.refl _ _) (by decide) (by decide) h
        · exact r12_keep (Below.refl _ _) (by decide) (by decide) h
        · exact r12_keep (Below.refl _ _) (by decide) (by decide) h
        · exact r12_keep (Below.refl _ _) (by decide) (by decide) h
        · exact r12_keep (Below.refl _ _) (by decide) (by decide) h
        · exact r12_keep (Below.refl _ _) (by decide) (by decide) h
        · exact r12_keep (Below.refl _ _) (by decide) (by decide) h
        · exact r12_keep (Below.refl _ _) (by decide) (by decide) h
        · exact r12_keep (Below.refl _ _) (by decide) (by decide) h
        · exact r12_keep (Below.refl _ _) (by decide) (by decide) h
        · exact r12_keep (Below.refl _ _) (by decide) (by decide) h
  · intro x' q hG hd hin K hK
    have HIN := Lib.hid hin
    clear hin
    have d13 : x' 13 = .bool o := hd 13 (by omega)
    refine HidG.mk ?_
    simp only [putsA, Act.put, List.setIfInBounds_toArray, List.set_cons_zero, List.set_cons_succ, Nat.reduceAdd, Nat.zero_add] at hK ⊢
    rw [d13] at hK ⊢
    go_simp
    exact hK (.bool o) _ ⟨rfl, hG⟩
  · intro x' q hF
    simp only [putsA, Act.put, List.setIfInBounds_toArray, List.set_cons_zero, List.set_cons_succ, Nat.reduceAdd, Nat.zero_add]
    obtain ⟨e14, hB⟩ := hF
    rw [e14]
    exact hf (x' 0) (x' 1) (x' 2) (x' 3) (x' 4) (x' 5) (x' 6) (x' 7) (x' 8) (x' 9) (x' 10) (x' 11) (x' 12) (x' 13) q hB
def K_uni14 (tb sb ga : Nat) (n Fb Gb : Int) (Mb cb : Nat) (Ab : Option Addr) (o : Bool) : Nat → KZ
  | 0 => .val (.pointer (some ⟨ga, 0, none⟩))
  | 1 => .val (.int .i64 1)
  | 2 => .val (.bool true)
  | 3 => .val (.bool true)
  | 4 => .val (.pointer (some ⟨tb, 0, none⟩))
  | 5 => .val (.pointer (some ⟨tb, 0, none⟩))
  | 6 => .val (.pointer (some ⟨tb, 0, none⟩))
  | 7 => .val (.pointer (some ⟨sb, 0, none⟩))
  | 8 => .val (.pointer (some ⟨ga, 1, none⟩))
  | 9 => .val (.int .i64 n)
  | 10 => .val (.agg #[.int .i64 Fb, .int .i64 Gb, .slice Ab Mb cb])
  | 11 => .box
  | 12 => .val (.bool o)
  | 13 => .val (.bool o)
  | _ => .val undef
set_option maxRecDepth 100000 in
set_option maxHeartbeats 1000000 in
theorem uni14 {V : World} {tb sb ga gb : Nat} {n Fb Gb : Int} {Mb cb : Nat} {Ab : Option Addr} {o : Bool} (H0 : Hid (∀ q, Below V.heap.size V q → q.cell? ⟨tb, 0, none⟩ = some (.pointer (some ⟨sb, 0, none⟩)))) (HA : Hid (∀ q, Below V.heap.size V q → q.cell? ⟨ga, 0, none⟩ = some (.int .i64 1) ∧ q.cell? ⟨ga, 1, none⟩ = some (.int .i64 n))) (HB : Hid (∀ q, Below V.heap.size V q → q.cell? ⟨gb, 0, none⟩ = some (.int .i64 Fb) ∧ q.cell? ⟨gb, 1, none⟩ = some (.int .i64 Gb) ∧ q.cell? ⟨gb, 2, none⟩ = some (.slice Ab Mb cb))) (HW : Hid (∀ q xb, Below V.heap.size V q → V.heap.size ≤ xb → MapI Try.prog 3 q xb 0 (seenF fun _ => false) → Calls Try.prog 53 #[.pointer (some ⟨sb, 0, none⟩), .int .i64 n, .agg #[.int .i64 Fb, .int .i64 Gb, .slice Ab Mb cb], .map (some xb)] q (fun e w' => e = .returned (.bool o) ∧ Below xb q w'))) {Q : Exit → Act → World → Prop} {ds : List Deferred} {r1 r2 r3 r4 r5 r6 r9 r10 r11 r12 r13 r14 r15 r16 r17 r18 r19 r20 r21 r22 r23 r24 r25 r26 r27 r28 r29 r30 r31 r32 r33 r34 r35 r36 r37 r38 r39 r40 r41 r42 r43 r44 r45 r46 r47 r48 r49 r50 r51 r52 r53 r54 r55 r56 r57 r58 r59 r60 r61 r62 r63 r64 r65 r66 r67 r68 r69 r70 r71 r72 r73 r74 r75 r76 r77 r78 r79 r80 r81 r82 r83 r84 r85 r86 r87 r88 r89 r90 r91 r92 r93 r94 r95 r96 r97 r98 r99 r101 r102 r103 r104 r105 r106 r107 r108 r109 r110 r111 r112 r113 r114 r115 r116 r117 r118 r119 r120 : Value}
    (hf : ∀ (x0 x1 x2 x3 x4 x5 x6 x7 x8 x9 x10 x11 x12 x13 : Value) (q : World), Below V.heap.size V q → Q .normal ⟨#[.pointer (some ⟨tb, 0, none⟩), r1, r2, r3, r4, r5, r6, .pointer (some ⟨gb, 0, none⟩), .pointer (some ⟨ga, 0, none⟩), r9, r10, r11, r12, r13, r14, r15, r16, r17, r18, r19, r20, r21, r22, r23, r24, r25, r26, r27, r28, r29, r30, r31, r32, r33, r34, r35, r36, r37, r38, r39, r40, r41, r42, r43, r44, r45, r46, r47, r48, r49, r50, r51, r52, r53, r54, r55, r56, r57, r58, r59, r60, r61, r62, r63, r64, r65, r66, r67, r68, r69, r70, r71, r72, r73, r74, r75, r76, r77, r78, r79, r80, r81, r82, r83, r84, r85, r86, .bool o, x0, x1, x2, x3, x4, x5, x6, x7, x8, x9, x10, x11, x12, x13, r102, r103, r104, r105, r106, r107, r108, r109, r110, r111, r112, r113, r114, r115, r116, r117, r118, r119, r120], ds⟩ q) :
    Code.wp Try.prog (Code.region 14 #[{ dst := some 88, op := Op.fieldAddr 49 (Operand.tmp 8) 0, type := 0, pos := "trial.go:29", after := #[], guard := none }, { dst := some 89, op := Op.load 3 (Operand.tmp 88), type := 3, pos := "trial.go:29", after := #[{ on := 0, ground := Ground.data }], guard := none }, { dst := some 90, op := Op.binOp BinOp.eql 3 (Operand.tmp 89) (Operand.const (Value.int IntKind.i64 1)) 3, type := 4, pos := "trial.go:29", after := #[{ on := 1, ground := Ground.data }], guard := none }, { dst := some 91, op := Op.move (Operand.tmp 90), type := 4, pos := "trial.go:29", after := #[{ on := 2, ground := Ground.data }], guard := none }, { dst := some 92, op := Op.move (Operand.tmp 0), type := 101, pos := "trial.go:29", after := #[{ on := 3, ground := Ground.guard }], guard := some (3, true) }, { dst := some 93, op := Op.nilCheck (Operand.tmp 92), type := 0, pos := "trial.go:29", after := #[{ on := 4, ground := Ground.data }, { on := 3, ground := Ground.guard }], guard := some (3, true) }, { dst := some 94, op := Op.fieldAddr 93 (Operand.tmp 93) 0, type := 0, pos := "trial.go:29", after := #[{ on := 5, ground := Ground.data }, { on := 3, ground := Ground.guard }], guard := some (3, true) }, { dst := some 95, op := Op.load 45 (Operand.tmp 94), type := 45, pos := "trial.go:29", after := #[{ on := 6, ground := Ground.data }, { on := 3, ground := Ground.guard }], guard := some (3, true) }, { dst := some 96, op := Op.fieldAddr 49 (Operand.tmp 8) 1, type := 0, pos := "trial.go:29", after := #[{ on := 3, ground := Ground.guard }], guard := some (3, true) }, { dst := some 97, op := Op.load 3 (Operand.tmp 96), type := 3, pos := "trial.go:29", after := #[{ on := 8, ground := Ground.data }, { on := 3, ground := Ground.guard }], guard := some (3, true) }, { dst := some 98, op := Op.load 49 (Operand.tmp 7), type := 49, pos := "trial.go:29", after := #[{ on := 3, ground := Ground.guard }], guard := some (3, true) }, { dst := some 99, op := Op.makeMap 103 none, type := 103, pos := "trial.go:29", after := #[{ on := 3, ground := Ground.guard }], guard := some (3, true) }, { dst := some 100, op := Op.call { callee := Callee.value (Operand.func 53), args := #[Operand.tmp 95, Operand.tmp 97, Operand.tmp 98, Operand.tmp 99], argTypes := #[45, 3, 49, 103] }, type := 4, pos := "trial.go:29", after := #[{ on := 7, ground := Ground.data }, { on := 9, ground := Ground.data }, { on := 10, ground := Ground.data }, { on := 11, ground := Ground.data }, { on := 3, ground := Ground.chain }, { on := 3, ground := Ground.guard }], guard := some (3, true) }, { dst := some 101, op := Op.pick (Operand.tmp 91) (Operand.tmp 100) (Operand.const (Value.bool false)), type := 4, pos := "trial.go:29", after := #[{ on := 3, ground := Ground.data }, { on := 12, ground := Ground.data }], guard := none }, { dst := some 87, op := Op.assign (Operand.tmp 101), type := 4, pos := "trial.go:29", after := #[{ on := 13, ground := Ground.data }, { on := 12, ground := Ground.chain }], guard := none }] true) Q ⟨#[.pointer (some ⟨tb, 0, none⟩), r1, r2, r3, r4, r5, r6, .pointer (some ⟨gb, 0, none⟩), .pointer (some ⟨ga, 0, none⟩), r9, r10, r11, r12, r13, r14, r15, r16, r17, r18, r19, r20, r21, r22, r23, r24, r25, r26, r27, r28, r29, r30, r31, r32, r33, r34, r35, r36, r37, r38, r39, r40, r41, r42, r43, r44, r45, r46, r47, r48, r49, r50, r51, r52, r53, r54, r55, r56, r57, r58, r59, r60, r61, r62, r63, r64, r65, r66, r67, r68, r69, r70, r71, r72, r73, r74, r75, r76, r77, r78, r79, r80, r81, r82, r83, r84, r85, r86, r87, r88, r89, r90, r91, r92, r93, r94, r95, r96, r97, r98, r99, undef, r101, r102, r103, r104, r105, r106, r107, r108, r109, r110, r111, r112, r113, r114, r115, r116, r117, r118, r119, r120], ds⟩ V := by
  refine wp_region_rel (m := 14) (o := ⟨some 87, _, _, _, _, _⟩) (D := [some 88, some 89, some 90, some 91, some 92, some 93, some 94, some 95, some 96, some 97, some 98, some 99, some 100, some 101, some 87]) (G := fun _ q => Below V.heap.size V q) (R := R12 V (K_uni14 tb sb ga n Fb Gb Mb cb Ab o)) (F_uni12 V o) V (by kernel_rfl) (by kernel_rfl) (by kernel_rfl) (by rfl) (by kernel_rfl) (by kernel_rfl) (by kernel_rfl) ?_ ?_ ?_ ?_
  · intro x' hx'
    exact (Below.refl _ _).drew
  · show StepsI _ _ _ _ _ _ _ _ [0, 1, 2, 3, 4, 5, 6, 7, 8, 9, 10, 11, 12, 13]
    refine .cons (o := ⟨some 88, _, _, _, _, _⟩) (ds := []) (js := [2, 3, 4, 5, 6, 7, 8, 9, 10, 11, 12, 13]) (ws := [0, 1, 2, 3, 4, 5, 6, 7, 8, 9, 10, 11, 12, 13, 14]) rfl (by kernel_rfl) (by kernel_rfl) (by kernel_rfl) ?_ ?_
    · intro x' q hG hd hin K hK
      have HIN := Lib.hid hin
      clear hin
      refine HidG.mk ?_
      simp only [putsA, Act.put, List.setIfInBounds_toArray, List.set_cons_zero, List.set_cons_succ, Nat.reduceAdd, Nat.zero_add] at hK ⊢
      go_simp
      refine hK _ _ (by exact hG) (fun j hj h => ?_) (by exact rfl)
      · simp only [List.mem_cons, List.not_mem_nil, or_false] at hj
        rcases hj with rfl | rfl | rfl | rfl | rfl | rfl | rfl | rfl | rfl | rfl | rfl | rfl
        · exact r12_keep (Below.refl _ _) (by decide) (by decide) h
        · exact r12_keep (Below.refl _ _) (by decide) (by decide) h
        · exact r12_keep (Below.refl _ _) (by decide) (by decide) h
        · exact r12_keep (Below.refl _ _) (by decide) (by decide) h
        · exact r12_keep (Below.refl _ _) (by decide) (by decide) h
        · exact r12_keep (Below.refl _ _) (by decide) (by decide) h
        · exact r12_keep (Below.refl _ _) (by decide) (by decide) h
        · exact r12_keep (Below.refl _ _) (by decide) (by decide) h
        · exact r12_keep (Below.refl _ _) (by decide) (by decide) h
        · exact r12_keep (Below.refl _ _) (by decide) (by decide) h
        · exact r12_keep (Below.refl _ _) (by decide) (by decide) h
        · exact r12_keep (Below.refl _ _) (by decide) (by decide) h
    refine .cons (o := ⟨some 89, _, _, _, _, _⟩) (ds := [0]) (js := [0, 3, 4, 5, 6, 7, 8, 9, 10, 11, 12, 13]) (ws := [1, 2, 3, 4, 5, 6, 7, 8, 9, 10, 11, 12, 13, 14]) rfl (by kernel_rfl) (by kernel_rfl) (by kernel_rfl) ?_ ?_
    · intro x' q hG hd hin K hK
      have HIN := Lib.hid hin
      clear hin
      have d0 : x' 0 = (.pointer (some ⟨ga, 0, none⟩)) := hd 0 (by simp)
      obtain ⟨k0, k1⟩ := HA.out q hG
      refine HidG.mk ?_
      simp only [putsA, Act.put, List.setIfInBounds_toArray, List.set_cons_zero, List.set_cons_succ, Nat.reduceAdd, Nat.zero_add] at hK ⊢
      rw [d0] at hK ⊢
      go_simp
      refine hK _ _ (by exact hG) (fun j hj h => ?_) (by exact rfl)
      · simp only [List.mem_cons, List.not_mem_nil, or_false] at hj
        rcases hj with rfl | rfl | rfl | rfl | rfl | rfl | rfl | rfl | rfl | rfl | rfl | rfl
        · exact r12_keep (Below.refl _ _) (by decide) (by decide) h
        · exact r12_keep (Below.refl _ _) (by decide) (by decide) h
        · exact r12_keep (Below.refl _ _) (by decide) (by decide) h
        · exact r12_keep (Below.refl _ _) (by decide) (by decide) h
        · exact r12_keep (Below.refl _ _) (by decide) (by decide) h
        · exact r12_keep (Below.refl _ _) (by decide) (by decide) h
        · exact r12_keep (Below.refl _ _) (by decide) (by decide) h
        · exact r12_keep (Below.refl _ _) (by decide) (by decide) h
        · exact r12_keep (Below.refl _ _) (by decide) (by decide) h
        · exact r12_keep (Below.refl _ _) (by decide) (by decide) h
        · exact r12_keep (Below.refl _ _) (by decide) (by decide) h
        · exact r12_keep (Below.refl _ _) (by decide) (by decide) h
    refine .cons (o := ⟨some 90, _, _, _, _, _⟩) (ds := [1]) (js := [0, 1, 4, 5, 6, 7, 8, 9, 10, 11, 12, 13]) (ws := [2, 3, 4, 5, 6, 7, 8, 9, 10, 11, 12, 13, 14]) rfl (by kernel_rfl) (by kernel_rfl) (by kernel_rfl) ?_ ?_
    · intro x' q hG hd hin K hK
      have HIN := Lib.hid hin
      clear hin
      have d1 : x' 1 = (.int .i64 1) := hd 1 (by simp)
      refine HidG.mk ?_
      simp only [putsA, Act.put, List.setIfInBounds_toArray, List.set_cons_zero, List.set_cons_succ, Nat.reduceAdd, Nat.zero_add] at hK ⊢
      rw [d1] at hK ⊢
      go_simp
      refine hK _ _ (by exact hG) (fun j hj h => ?_) (by exact rfl)
      · simp only [List.mem_cons, List.not_mem_nil, or_false] at hj
        rcases hj with rfl | rfl | rfl | rfl | rfl | rfl | rfl | rfl | rfl | rfl | rfl | rfl
        · exact r12_keep (Below.refl _ _) (by decide) (by decide) h
        · exact r12_keep (Below.refl _ _) (by decide) (by decide) h
        · exact r12_keep (Below.refl _ _) (by decide) (by decide) h
        · exact r12_keep (Below.refl _ _) (by decide) (by decide) h
        · exact r12_keep (Below.refl _ _) (by decide) (by decide) h
        · exact r12_keep (Below.refl _ _) (by decide) (by decide) h
        · exact r12_keep (Below.refl _ _) (by decide) (by decide) h
        · exact r12_keep (Below.refl _ _) (by decide) (by decide) h
        · exact r12_keep (Below.refl _ _) (by decide) (by decide) h
        · exact r12_keep (Below.refl _ _) (by decide) (by decide) h
        · exact r12_keep (Below.refl _ _) (by decide) (by decide) h
        · exact r12_keep (Below.refl _ _) (by decide) (by decide) h
    refine .cons (o := ⟨some 91, _, _, _, _, _⟩) (ds := [2]) (js := [0, 1, 2]) (ws := [3, 4, 5, 6, 7, 8, 9, 10, 11, 12, 13, 14]) rfl (by kernel_rfl) (by kernel_rfl) (by kernel_rfl) ?_ ?_
    · intro x' q hG hd hin K hK
      have HIN := Lib.hid hin
      clear hin
      have d2 : x' 2 = (.bool true) := hd 2 (by simp)
      refine HidG.mk ?_
      simp only [putsA, Act.put, List.setIfInBounds_toArray, List.set_cons_zero, List.set_cons_succ, Nat.reduceAdd, Nat.zero_add] at hK ⊢
      rw [d2] at hK ⊢
      go_simp
      refine hK _ _ (by exact hG) (fun j hj h => ?_) (by exact rfl)
      · simp only [List.mem_cons, List.not_mem_nil, or_false] at hj
        rcases hj with rfl | rfl | rfl
        · exact r12_keep (Below.refl _ _) (by decide) (by decide) h
        · exact r12_keep (Below.refl _ _) (by decide) (by decide) h
        · exact r12_keep (Below.refl _ _) (by decide) (by decide) h
    refine .cons (o := ⟨some 92, _, _, _, _, _⟩) (ds := [3]) (js := [0, 1, 2, 3, 6, 7, 8, 9, 10, 11, 12, 13]) (ws := [4, 5, 6, 7, 12, 13, 14]) rfl (by kernel_rfl) (by kernel_rfl) (by kernel_rfl) ?_ ?_
    · intro x' q hG hd hin K hK
      have HIN := Lib.hid hin
      clear hin
      have d3 : x' 3 = (.bool true) := hd 3 (by simp)
      refine HidG.mk ?_
      simp only [putsA, Act.put, List.setIfInBounds_toArray, List.set_cons_zero, List.set_cons_succ, Nat.reduceAdd, Nat.zero_add] at hK ⊢
      rw [d3] at hK ⊢
      go_simp
      refine hK _ _ (by exact hG) (fun j hj h => ?_) (by exact rfl)
      · simp only [List.mem_cons, List.not_mem_nil, or_false] at hj
        rcases hj with rfl | rfl | rfl | rfl | rfl | rfl | rfl | rfl | rfl | rfl | rfl | rfl
        · exact r12_keep (Below.refl _ _) (by decide) (by decide) h
        · exact r12_keep (Below.refl _ _) (by decide) (by decide) h
        · exact r12_keep (Below.refl _ _) (by decide) (by decide) h
        · exact r12_keep (Below.refl _ _) (by decide) (by decide) h
        · exact r12_keep (Below.refl _ _) (by decide) (by decide) h
        · exact r12_keep (Below.refl _ _) (by decide) (by decide) h
        · exact r12_keep (Below.refl _ _) (by decide) (by decide) h
        · exact r12_keep (Below.refl _ _) (by decide) (by decide) h
        · exact r12_keep (Below.refl _ _) (by decide) (by decide) h
        · exact r12_keep (Below.refl _ _) (by decide) (by decide) h
        · exact r12_keep (Below.refl _ _) (by decide) (by decide) h
        · exact r12_keep (Below.refl _ _) (by decide) (by decide) h
    refine .cons (o := ⟨some 93, _, _, _, _, _⟩) (ds := [4, 3]) (js := [0, 1, 2, 3, 4, 7, 8, 9, 10, 11, 12, 13]) (ws := [5, 6, 7, 12, 13, 14]) rfl (by kernel_rfl) (by kernel_rfl) (by kernel_rfl) ?_ ?_
    · intro x' q hG hd hin K hK
      have HIN := Lib.hid hin
      clear hin
      have d3 : x' 3 = (.bool true) := hd 3 (by simp)
      have d4 : x' 4 = (.pointer (some ⟨tb, 0, none⟩)) := hd 4 (by simp)
      refine HidG.mk ?_
      simp only [putsA, Act.put, List.setIfInBounds_toArray, List.set_cons_zero, List.set_cons_succ, Nat.reduceAdd, Nat.zero_add] at hK ⊢
      rw [d3, d4] at hK ⊢
      go_simp
      refine hK _ _ (by exact hG) (fun j hj h => ?_) (by exact rfl)
      · simp only [List.mem_cons, List.not_mem_nil, or_false] at hj
        rcases hj with rfl | rfl | rfl | rfl | rfl | rfl | rfl | rfl | rfl | rfl | rfl | rfl
        · exact r12_keep (Below.refl _ _) (by decide) (by decide) h
        · exact r12_keep (Below.refl _ _) (by decide) (by decide) h
        · exact r12_keep (Below.refl _ _) (by decide) (by decide) h
        · exact r12_keep (Below.refl _ _) (by decide) (by decide) h
        · exact r12_keep (Below.refl _ _) (by decide) (by decide) h
        · exact r12_keep (Below.refl _ _) (by decide) (by decide) h
        · exact r12_keep (Below.refl _ _) (by decide) (by decide) h
        · exact r12_keep (Below.refl _ _) (by decide) (by decide) h
        · exact r12_keep (Below.refl _ _) (by decide) (by decide) h
        · exact r12_keep (Below.refl _ _) (by decide) (by decide) h
        · exact r12_keep (Below.refl _ _) (by decide) (by decide) h
        · exact r12_keep (Below.refl _ _) (by decide) (by decide) h
    refine .cons (o := ⟨some 94, _, _, _, _, _⟩) (ds := [5, 3]) (js := [0, 1, 2, 3, 4, 5, 8, 9, 10, 11, 12, 13]) (ws := [6, 7, 12, 13, 14]) rfl (by kernel_rfl) (by kernel_rfl) (by kernel_rfl) ?_ ?_
    · intro x' q hG hd hin K hK
      have HIN := Lib.hid hin
      clear hin
      have d3 : x' 3 = (.bool true) := hd 3 (by simp)
      have d5 : x' 5 = (.pointer (some ⟨tb, 0, none⟩)) := hd 5 (by simp)
      refine HidG.mk ?_
      simp only [putsA, Act.put, List.setIfInBounds_toArray, List.set_cons_zero, List.set_cons_succ, Nat.reduceAdd, Nat.zero_add] at hK ⊢
      rw [d3, d5] at hK ⊢
      go_simp
      refine hK _ _ (by exact hG) (fun j hj h => ?_) (by exact rfl)
      · simp only [List.mem_cons, List.not_mem_nil, or_false] at hj
        rcases hj with rfl | rfl | rfl | rfl | rfl | rfl | rfl | rfl | rfl | rfl | rfl | rfl
        · exact r12_keep (Below.refl _ _) (by decide) (by decide) h
        · exact r12_keep (Below.refl _ _) (by decide) (by decide) h
        · exact r12_keep (Below.refl _ _) (by decide) (by decide) h
        · exact r12_keep (Below.refl _ _) (by decide) (by decide) h
        · exact r12_keep (Below.refl _ _) (by decide) (by decide) h
        · exact r12_keep (Below.refl _ _) (by decide) (by decide) h
        · exact r12_keep (Below.refl _ _) (by decide) (by decide) h
        · exact r12_keep (Below.refl _ _) (by decide) (by decide) h
        · exact r12_keep (Below.refl _ _) (by decide) (by decide) h
        · exact r12_keep (Below.refl _ _) (by decide) (by decide) h
        · exact r12_keep (Below.refl _ _) (by decide) (by decide) h
        · exact r12_keep (Below.refl _ _) (by decide) (by decide) h
    refine .cons (o := ⟨some 95, _, _, _, _, _⟩) (ds := [6, 3]) (js := [0, 1, 2, 3, 4, 5, 6, 8, 9, 10, 11, 13]) (ws := [7, 12, 13, 14]) rfl (by kernel_rfl) (by kernel_rfl) (by kernel_rfl) ?_ ?_
    · intro x' q hG hd hin K hK
      have HIN := Lib.hid hin
      clear hin
      have d3 : x' 3 = (.bool true) := hd 3 (by simp)
      have d6 : x' 6 = (.pointer (some ⟨tb, 0, none⟩)) := hd 6 (by simp)
      have k0 := H0.out q hG
      refine HidG.mk ?_
      simp only [putsA, Act.put, List.setIfInBounds_toArray, List.set_cons_zero, List.set_cons_succ, Nat.reduceAdd, Nat.zero_add] at hK ⊢
      rw [d3, d6] at hK ⊢
      go_simp
      refine hK _ _ (by exact hG) (fun j hj h => ?_) (by exact rfl)
      · simp only [List.mem_cons, List.not_mem_nil, or_false] at hj
        rcases hj with rfl | rfl | rfl | rfl | rfl | rfl | rfl | rfl | rfl | rfl | rfl | rfl
        · exact r12_keep (Below.refl _ _) (by decide) (by decide) h
        · exact r12_keep (Below.refl _ _) (by decide) (by decide) h
        · exact r12_keep (Below.refl _ _) (by decide) (by decide) h
        · exact r12_keep (Below.refl _ _) (by decide) (by decide) h
        · exact r12_keep (Below.refl _ _) (by decide) (by decide) h
        · exact r12_keep (Below.refl _ _) (by decide) (by decide) h
        · exact r12_keep (Below.refl _ _) (by decide) (by decide) h
        · exact r12_keep (Below.refl _ _) (by decide) (by decide) h
        · exact r12_keep (Below.refl _ _) (by decide) (by decide) h
        · exact r12_keep (Below.refl _ _) (by decide) (by decide) h
        · exact r12_keep (Below.refl _ _) (by decide) (by decide) h
        · exact r12_keep (Below.refl _ _) (by decide) (by decide) h
    refine .cons (o := ⟨some 96, _, _, _, _, _⟩) (ds := [3]) (js := [0, 1, 2, 3, 4, 5, 6, 7, 10, 11, 12, 13]) (ws := [8, 9, 12, 13, 14]) rfl (by kernel_rfl) (by kernel_rfl) (by kernel_rfl) ?_ ?_
    · intro x' q hG hd hin K hK
      have HIN := Lib.hid hin
      clear hin
      have d3 : x' 3 = (.bool true) := hd 3 (by simp)
      refine HidG.mk ?_
      simp only [putsA, Act.put, List.setIfInBounds_toArray, List.set_cons_zero, List.set_cons_succ, Nat.reduceAdd, Nat.zero_add] at hK ⊢
      rw [d3] at hK ⊢
      go_simp
      refine hK _ _ (by exact hG) (fun j hj h => ?_) (by exact rfl)
      · simp only [List.mem_cons, List.not_mem_nil, or_false] at hj
        rcases hj with rfl | rfl | rfl | rfl | rfl | rfl | rfl | rfl | rfl | rfl | rfl | rfl
        · exact r12_keep (Below.refl _ _) (by decide) (by decide) h
        · exact r12_keep (Below.refl _ _) (by decide) (by decide) h
        · exact r12_keep (Below.refl _ _) (by decide) (by decide) h
        · exact r12_keep (Below.refl _ _) (by decide) (by decide) h
        · exact r12_keep (Below.refl _ _) (by decide) (by decide) h
        · exact r12_keep (Below.refl _ _) (by decide) (by decide) h
        · exact r12_keep (Below.refl _ _) (by decide) (by decide) h
        · exact r12_keep (Below.refl _ _) (by decide) (by decide) h
        · exact r12_keep (Below.refl _ _) (by decide) (by decide) h
        · exact r12_keep (Below.refl _ _) (by decide) (by decide) h
        · exact r12_keep (Below.refl _ _) (by decide) (by decide) h
        · exact r12_keep (Below.refl _ _) (by decide) (by decide) h
    refine .cons (o := ⟨some 97, _, _, _, _, _⟩) (ds := [8, 3]) (js := [0, 1, 2, 3, 4, 5, 6, 7, 8, 10, 11, 13]) (ws := [9, 12, 13, 14]) rfl (by kernel_rfl) (by kernel_rfl) (by kernel_rfl) ?_ ?_
    · intro x' q hG hd hin K hK
      have HIN := Lib.hid hin
      clear hin
      have d3 : x' 3 = (.bool true) := hd 3 (by simp)
      have d8 : x' 8 = (.pointer (some ⟨ga, 1, none⟩)) := hd 8 (by simp)
      obtain ⟨k0, k1⟩ := HA.out q hG
      refine HidG.mk ?_
      simp only [putsA, Act.put, List.setIfInBounds_toArray, List.set_cons_zero, List.set_cons_succ, Nat.reduceAdd, Nat.zero_add] at hK ⊢
      rw [d3, d8] at hK ⊢
      go_simp
      refine hK _ _ (by exact hG) (fun j hj h => ?_) (by exact rfl)
      · simp only [List.mem_cons, List.not_mem_nil, or_false] at hj
        rcases hj with rfl | rfl | rfl | rfl | rfl | rfl | rfl | rfl | rfl | rfl | rfl | rfl
        · exact r12_keep (Below.refl _ _) (by decide) (by decide) h
        · exact r12_keep (Below.refl _ _) (by decide) (by decide) h
        · exact r12_keep (Below.refl _ _) (by decide) (by decide) h
        · exact r12_keep (Below.refl _ _) (by decide) (by decide) h
        · exact r12_keep (Below.refl _ _) (by decide) (by decide) h
        · exact r12_keep (Below.refl _ _) (by decide) (by decide) h
        · exact r12_keep (Below.refl _ _) (by decide) (by decide) h
        · exact r12_keep (Below.refl _ _) (by decide) (by decide) h
        · exact r12_keep (Below.refl _ _) (by decide) (by decide) h
        · exact r12_keep (Below.refl _ _) (by decide) (by decide) h
        · exact r12_keep (Below.refl _ _) (by decide) (by decide) h
        · exact r12_keep (Below.refl _ _) (by decide) (by decide) h
    refine .cons (o := ⟨some 98, _, _, _, _, _⟩) (ds := [3]) (js := [0, 1, 2, 3, 4, 5, 6, 7, 8, 9, 11, 13]) (ws := [10, 12, 13, 14]) rfl (by kernel_rfl) (by kernel_rfl) (by kernel_rfl) ?_ ?_
    · intro x' q hG hd hin K hK
      have HIN := Lib.hid hin
      clear hin
      have d3 : x' 3 = (.bool true) := hd 3 (by simp)
      obtain ⟨k0, k1, k2⟩ := HB.out q hG
      refine HidG.mk ?_
      simp only [putsA, Act.put, List.setIfInBounds_toArray, List.set_cons_zero, List.set_cons_succ, Nat.reduceAdd, Nat.zero_add] at hK ⊢
      rw [d3] at hK ⊢
      go_simp
      refine hK _ _ (by exact hG) (fun j hj h => ?_) (by exact rfl)
      · simp only [List.mem_cons, List.not_mem_nil, or_false] at hj
        rcases hj with rfl | rfl | rfl | rfl | rfl | rfl | rfl | rfl | rfl | rfl | rfl | rfl
        · exact r12_keep (Below.refl _ _) (by decide) (by decide) h
        · exact r12_keep (Below.refl _ _) (by decide) (by decide) h
        · exact r12_keep (Below.refl _ _) (by decide) (by decide) h
        · exact r12_keep (Below.refl _ _) (by decide) (by decide) h
        · exact r12_keep (Below.refl _ _) (by decide) (by decide) h
        · exact r12_keep (Below.refl _ _) (by decide) (by decide) h
        · exact r12_keep (Below.refl _ _) (by decide) (by decide) h
        · exact r12_keep (Below.refl _ _) (by decide) (by decide) h
        · exact r12_keep (Below.refl _ _) (by decide) (by decide) h
        · exact r12_keep (Below.refl _ _) (by decide) (by decide) h
        · exact r12_keep (Below.refl _ _) (by decide) (by decide) h
        · exact r12_keep (Below.refl _ _) (by decide) (by decide) h
    refine .cons (o := ⟨some 99, _, _, _, _, _⟩) (ds := [3]) (js := [0, 1, 2, 3, 4, 5, 6, 7, 8, 9, 10, 13]) (ws := [11, 12, 13, 14]) rfl (by kernel_rfl) (by kernel_rfl) (by kernel_rfl) ?_ ?_
    · intro x' q hG hd hin K hK
      have HIN := Lib.hid hin
      clear hin
      have d3 : x' 3 = (.bool true) := hd 3 (by simp)
      have hmm := @run_makeMap Try.prog
      refine HidG.mk ?_
      simp only [putsA, Act.put, List.setIfInBounds_toArray, List.set_cons_zero, List.set_cons_succ, Nat.reduceAdd, Nat.zero_add] at hK ⊢
      rw [d3] at hK ⊢
      go_simp
      refine hK _ _ (by exact hG.trans ((below_new q _).mono hG.size)) (fun j hj h => ?_) (by exact ⟨q.heap.size, upd_self, hG.size, fun _ => by rw [seen_none]; exact MapI.made Try.prog 3 q⟩)
      · simp only [List.mem_cons, List.not_mem_nil, or_false] at hj
        rcases hj with rfl | rfl | rfl | rfl | rfl | rfl | rfl | rfl | rfl | rfl | rfl | rfl
        · exact r12_keep (below_new q _) (by decide) (by decide) h
        · exact r12_keep (below_new q _) (by decide) (by decide) h
        · exact r12_keep (below_new q _) (by decide) (by decide) h
        · exact r12_keep (below_new q _) (by decide) (by decide) h
        · exact r12_keep (below_new q _) (by decide) (by decide) h
        · exact r12_keep (below_new q _) (by decide) (by decide) h
        · exact r12_keep (below_new q _) (by decide) (by decide) h
        · exact r12_keep (below_new q _) (by decide) (by decide) h
        · exact r12_keep (below_new q _) (by decide) (by decide) h
        · exact r12_keep (below_new q _) (by decide) (by decide) h
        · exact r12_keep (below_new q _) (by decide) (by decide) h
        · exact r12_keep (below_new q _) (by decide) (by decide) h
    refine .cons (o := ⟨some 100, _, _, _, _, _⟩) (ds := [7, 9, 10, 11, 3, 3]) (js := [0, 1, 2, 3, 4, 5, 6, 7, 8, 9, 10, 11]) (ws := [12, 13, 14]) rfl (by kernel_rfl) (by kernel_rfl) (by kernel_rfl) ?_ ?_
    · intro x' q hG hd hin K hK
      have HIN := Lib.hid hin
      clear hin
      have d3 : x' 3 = (.bool true) := hd 3 (by simp)
      have d7 : x' 7 = (.pointer (some ⟨sb, 0, none⟩)) := hd 7 (by simp)
      have d9 : x' 9 = (.int .i64 n) := hd 9 (by simp)
      have d10 : x' 10 = (.agg #[.int .i64 Fb, .int .i64 Gb, .slice Ab Mb cb]) := hd 10 (by simp)
      have d11 : ∃ xb, x' 11 = .map (some xb) ∧ V.heap.size ≤ xb ∧ (x' 12 = undef → MapI Try.prog 3 q xb 0 (seenF fun _ => false)) := hd 11 (by simp)
      obtain ⟨xb, d11, hxb, hmap⟩ := d11
      have HC := Lib.hid (HW.out q xb hG hxb (hmap (HIN.out 12 (by decide))))
      clear hmap
      refine HidG.mk ?_
      simp only [putsA, Act.put, List.setIfInBounds_toArray, List.set_cons_zero, List.set_cons_succ, Nat.reduceAdd, Nat.zero_add] at hK ⊢
      rw [d3, d7, d9, d10] at hK ⊢
      rw [d11] at hK ⊢
      go_simp
      (with_reducible refine HC.out.mono ?_)
      rintro e q1 ⟨rfl, hb⟩
      refine hK _ _ (by exact hG.trans (hb.mono hxb)) (fun j hj h => ?_) (by exact rfl)
      · simp only [List.mem_cons, List.not_mem_nil, or_false] at hj
        rcases hj with rfl | rfl | rfl | rfl | rfl | rfl | rfl | rfl | rfl | rfl | rfl | rfl
        · exact r12_call (by decide) h
        · exact r12_call (by decide) h
        · exact r12_call (by decide) h
        · exact r12_call (by decide) h
        · exact r12_call (by decide) h
        · exact r12_call (by decide) h
        · exact r12_call (by decide) h
        · exact r12_call (by decide) h
        · exact r12_call (by decide) h
        · exact r12_call (by decide) h
        · exact r12_call (by decide) h
        · exact r12_call (by decide) h
    refine .cons (o := ⟨some 101, _, _, _, _, _⟩) (ds := [3, 12]) (js := [0, 1, 2, 3, 4, 5, 6, 7, 8, 9, 10, 11, 12]) (ws := [13, 14]) rfl (by kernel_rfl) (by kernel_rfl) (by kernel_rfl) ?_ .nil
    · intro x' q hG hd hin K hK
      have HIN := Lib.hid hin
      clear hin
      have d3 : x' 3 = (.bool true) := hd 3 (by simp)
      have d12 : x' 12 = (.bool o) := hd 12 (by simp)
      refine HidG.mk ?_
      simp only [putsA, Act.put, List.setIfInBounds_toArray, List.set_cons_zero, List.set_cons_succ, Nat.reduceAdd, Nat.zero_add] at hK ⊢
      rw [d3, d12] at hK ⊢
      go_simp
      refine hK _ _ (by exact hG) (fun j hj h => ?_) (by exact rfl)
      · simp only [List.mem_cons, List.not_mem_nil, or_false] at hj
        rcases hj with rfl | rfl | rfl | rfl | rfl | rfl | rfl | rfl | rfl | rfl | rfl | rfl | rfl
        · exact r12_keep (Below.refl _ _) (by decide) (by decide) h
        · exact r12_keep (Below.refl _ _) (by decide) (by decide) h
        · exact r12_keep (Below.refl _ _) (by decide) (by decide) h
        · exact r12_keep (Below.refl _ _) (by decide) (by decide) h
        · exact r12_keep (Below.refl _ _) (by decide) (by decide) h
        · exact r12_keep (Below.refl _ _) (by decide) (by decide) h
        · exact r12_keep (Below.refl _ _) (by decide) (by decide) h
        · exact r12_keep (Below.refl _ _) (by decide) (by decide) h
        · exact r12_keep (Below.refl _ _) (by decide) (by decide) h
        · exact r12_keep (Below.refl _ _) (by decide) (by decide) h
        · exact r12_keep (Below.refl _ _) (by decide) (by decide) h
        · exact r12_keep (Below.refl _ _) (by decide) (by decide) h
        · exact r12_keep (Below.refl _ _) (by decide) (by decide) h
  · intro x' q hG hd hin K hK
    have HIN := Lib.hid hin
    clear hin
    have d13 : x' 13 = .bool o := hd 13 (by omega)
    refine HidG.mk ?_
    simp only [putsA, Act.put, List.setIfInBounds_toArray, List.set_cons_zero, List.set_cons_succ, Nat.reduceAdd, Nat.zero_add] at hK ⊢
    rw [d13] at hK ⊢
    go_simp
    exact hK (.bool o) _ ⟨rfl, hG⟩
  · intro x' q hF
    simp only [putsA, Act.put, List.setIfInBounds_toArray, List.set_cons_zero, List.set_cons_succ, Nat.reduceAdd, Nat.zero_add]
    obtain ⟨e14, hB⟩ := hF
    rw [e14]
    exact hf (x' 0) (x' 1) (x' 2) (x' 3) (x' 4) (x' 5) (x' 6) (x' 7) (x' 8) (x' 9) (x' 10) (x' 11) (x' 12) (x' 13) q hB
end Go.Proofs.Ytomhojpoaicioaa
