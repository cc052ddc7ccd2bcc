/- TreadVars' regions that ask for names (chapter 5), each by itself. Conditions: those that each theorem names. -/
import Derived.Test.YtbdfjboojokgdaaDoorJV34
namespace Go.Proofs.YtbdfjboojokgdaaDoor
open Go.RowKit Lx

def GBl (X : World) (_ : Nat → Value) (q : World) : Prop := Below X.heap.size X q
def RHas (g i _b : Nat) (u v : Value) (a : Addr) (y : ByteArray) : Nat → (Nat → Value) → World → Prop
  | 0, x, _ => x 0 = .pointer (some ⟨g, 0, none⟩)
  | 1, x, _ => x 1 = u
  | 2, x, _ => x 2 = v
  | 3, x, _ => x 3 = .int .i64 i
  | 4, x, _ => x 4 = .pointer (some a)
  | 5, x, _ => x 5 = .string y
  | 6, x, _ => x 6 = .bool true
  | _, _, _ => True
def FHas (X : World) (x : Nat → Value) (q : World) : Prop := x 7 = .bool false ∧ Below X.heap.size X q
def RNot (g i : Nat) (u v v2 : Value) (a : Addr) (y : ByteArray) : Nat → (Nat → Value) → World → Prop
  | 0, x, _ => x 0 = u
  | 1, x, _ => x 1 = .pointer (some ⟨g, 0, none⟩)
  | 2, x, _ => x 2 = v
  | 3, x, _ => x 3 = .int .i64 i
  | 4, x, _ => x 4 = .pointer (some a)
  | 5, x, _ => x 5 = .string y
  | 6, x, _ => x 6 = .bool true
  | 7, x, _ => x 7 = .bool false
  | 8, x, _ => x 8 = .bool false
  | 9, x, _ => x 9 = .pointer (some ⟨g, 0, none⟩)
  | 10, x, _ => x 10 = v
  | 11, x, _ => x 11 = .int .i64 i
  | 12, x, _ => x 12 = v2
  | 13, x, _ => x 13 = .pointer (some ⟨g, 0, none⟩)
  | 14, x, _ => x 14 = v
  | 15, x, _ => x 15 = .int .i64 i
  | 16, x, _ => x 16 = .pointer (some a)
  | 17, x, _ => x 17 = .string y
  | 18, x, _ => x 18 = .bool false
  | _, _, _ => True
def FNot (X : World) (x : Nat → Value) (q : World) : Prop := x 19 = .bool false ∧ Below X.heap.size X q
set_option maxRecDepth 100000 in
set_option maxHeartbeats 1000000 in
theorem tvars_reg15 {V : World} {Av : Option Addr} {nv cv g bw ow i nw cw : Nat} {y : ByteArray} (hi : i < nw) (HV : Hid (∀ q, Below V.heap.size V q → q.cell? ⟨g, 0, none⟩ = some (.slice Av nv cv))) (HW : Hid (∀ q, Below V.heap.size V q → q.cell? ⟨bw, ow + i, none⟩ = some (.string y))) (HH : Hid (∀ q, Below V.heap.size V q → Calls Tryd.prog 30 #[.slice Av nv cv, .string y] q fun e q1 => e = .returned (.bool true) ∧ Below q.heap.size q q1)) {Q : Exit → Act → World → Prop} {ds : List Deferred} {r0 r1 r2 r3 r4 r5 r6 r8 r10 r12 r13 r14 r15 r16 r17 r18 r19 r20 r21 r22 r23 r24 r25 r26 r27 r28 r29 r30 r31 r32 r33 r34 r35 r36 r37 r38 r39 r40 r41 r42 r43 r44 r45 r46 r47 r48 r49 r50 r51 r52 r53 r54 r55 r56 r57 r58 r59 r60 r61 r62 r63 r64 r65 r66 r67 r68 r69 r70 r71 r72 r73 r74 r75 r76 r77 r78 r79 r80 r81 r82 r83 r84 r85 r86 r87 r88 r89 r90 r91 r92 r93 r94 r95 r96 : Value}
    (hf : ∀ (x0 x1 x2 x3 x4 x5 x6 : Value) (q : World), Below V.heap.size V q → Q .normal ⟨#[r0, r1, r2, r3, r4, r5, r6, .pointer (some ⟨g, 0, none⟩), r8, .slice (some ⟨bw, ow, none⟩) nw cw, r10, .int .i64 i, r12, r13, r14, r15, r16, r17, r18, r19, r20, r21, r22, r23, r24, r25, r26, r27, r28, r29, r30, r31, r32, r33, r34, r35, r36, r37, r38, r39, r40, r41, r42, r43, r44, r45, r46, r47, r48, r49, r50, r51, r52, r53, r54, r55, r56, r57, r58, r59, r60, x0, x1, x2, x3, x4, x5, x6, .bool false, r69, r70, r71, r72, r73, r74, r75, r76, r77, r78, r79, r80, r81, r82, r83, r84, r85, r86, r87, r88, r89, r90, r91, r92, r93, r94, r95, r96], ds⟩ q) :
    Code.wp Tryd.prog (Code.region 15 #[{ dst := some 61, op := Op.fieldAddr 70 (Operand.tmp 7) 0, type := 0, pos := "law.go:137", after := #[], guard := none }, { dst := some 62, op := Op.load 28 (Operand.tmp 61), type := 28, pos := "law.go:137", after := #[{ on := 0, ground := Ground.data }], guard := none }, { dst := some 63, op := Op.move (Operand.tmp 9), type := 28, pos := "law.go:137", after := #[], guard := none }, { dst := some 64, op := Op.move (Operand.tmp 11), type := 3, pos := "law.go:137", after := #[], guard := none }, { dst := some 65, op := Op.indexAddr 28 (Operand.tmp 63) (Operand.tmp 64), type := 0, pos := "law.go:137", after := #[{ on := 2, ground := Ground.data }, { on := 3, ground := Ground.data }], guard := none }, { dst := some 66, op := Op.load 9 (Operand.tmp 65), type := 9, pos := "law.go:137", after := #[{ on := 4, ground := Ground.data }], guard := none }, { dst := some 67, op := Op.call { callee := Callee.value (Operand.func 30), args := #[Operand.tmp 62, Operand.tmp 66], argTypes := #[28, 9] }, type := 4, pos := "law.go:137", after := #[{ on := 1, ground := Ground.data }, { on := 5, ground := Ground.data }], guard := none }, { dst := some 68, op := Op.unOp UnOp.not 4 (Operand.tmp 67), type := 4, pos := "law.go:137", after := #[{ on := 6, ground := Ground.data }], guard := none }] true) Q ⟨#[r0, r1, r2, r3, r4, r5, r6, .pointer (some ⟨g, 0, none⟩), r8, .slice (some ⟨bw, ow, none⟩) nw cw, r10, .int .i64 i, r12, r13, r14, r15, r16, r17, r18, r19, r20, r21, r22, r23, r24, r25, r26, r27, r28, r29, r30, r31, r32, r33, r34, r35, r36, r37, r38, r39, r40, r41, r42, r43, r44, r45, r46, r47, r48, r49, r50, r51, r52, r53, r54, r55, r56, r57, r58, r59, r60, r61, r62, r63, r64, r65, r66, r67, r68, r69, r70, r71, r72, r73, r74, r75, r76, r77, r78, r79, r80, r81, r82, r83, r84, r85, r86, r87, r88, r89, r90, r91, r92, r93, r94, r95, r96], ds⟩ V := by
  refine wp_region_rel (m := 7) (o := ⟨some 68, _, _, _, _, _⟩) (D := [some 61, some 62, some 63, some 64, some 65, some 66, some 67, some 68]) (G := GBl V) (R := RHas g i 0 (.slice Av nv cv) (.slice (some ⟨bw, ow, none⟩) nw cw) ⟨bw, ow + i, none⟩ y) (FHas V) V (by kernel_rfl) (by kernel_rfl) (by kernel_rfl) (by rfl) (by kernel_rfl) (by kernel_rfl) (by kernel_rfl) ?_ ?_ ?_ ?_
  · intro x hx
    exact (Below.refl _ V).drew
  · show StepsI _ _ _ _ _ _ _ _ [0, 1, 2, 3, 4, 5, 6]
    refine .cons (o := ⟨some 61, _, _, _, _, _⟩) (ds := []) (js := [2, 3, 4, 5, 6]) rfl (by kernel_rfl) (by kernel_rfl) ?_ ?_
    · intro x q hG hd K hK
      refine HidG.mk ?_
      simp only [putsA, Act.put, List.setIfInBounds_toArray, List.set_cons_zero, List.set_cons_succ, Nat.reduceAdd, Nat.zero_add] at hK ⊢
      go_simp
      refine hK _ _ hG (fun j hj h => ?_) rfl
      · simp only [List.mem_cons, List.not_mem_nil, or_false] at hj
        rcases hj with rfl | rfl | rfl | rfl | rfl
        · exact h
        · exact h
        · exact h
        · exact h
        · exact h
    refine .cons (o := ⟨some 62, _, _, _, _, _⟩) (ds := [0]) (js := [0, 2, 3, 4, 5]) rfl (by kernel_rfl) (by kernel_rfl) ?_ ?_
    · intro x q hG hd K hK
      have d0 : x 0 = .pointer (some ⟨g, 0, none⟩) := hd 0 (by simp)
      have k0 := HV.out q hG
      refine HidG.mk ?_
      simp only [putsA, Act.put, List.setIfInBounds_toArray, List.set_cons_zero, List.set_cons_succ, Nat.reduceAdd, Nat.zero_add] at hK ⊢
      rw [d0] at hK ⊢
      go_simp
      refine hK _ _ hG (fun j hj h => ?_) rfl
      · simp only [List.mem_cons, List.not_mem_nil, or_false] at hj
        rcases hj with rfl | rfl | rfl | rfl | rfl
        · exact h
        · exact h
        · exact h
        · exact h
        · exact h
    refine .cons (o := ⟨some 63, _, _, _, _, _⟩) (ds := []) (js := [0, 1, 3, 5, 6]) rfl (by kernel_rfl) (by kernel_rfl) ?_ ?_
    · intro x q hG hd K hK
      refine HidG.mk ?_
      simp only [putsA, Act.put, List.setIfInBounds_toArray, List.set_cons_zero, List.set_cons_succ, Nat.reduceAdd, Nat.zero_add] at hK ⊢
      go_simp
      refine hK _ _ hG (fun j hj h => ?_) rfl
      · simp only [List.mem_cons, List.not_mem_nil, or_false] at hj
        rcases hj with rfl | rfl | rfl | rfl | rfl
        · exact h
        · exact h
        · exact h
        · exact h
        · exact h
    refine .cons (o := ⟨some 64, _, _, _, _, _⟩) (ds := []) (js := [0, 1, 2, 5, 6]) rfl (by kernel_rfl) (by kernel_rfl) ?_ ?_
    · intro x q hG hd K hK
      refine HidG.mk ?_
      simp only [putsA, Act.put, List.setIfInBounds_toArray, List.set_cons_zero, List.set_cons_succ, Nat.reduceAdd, Nat.zero_add] at hK ⊢
      go_simp
      refine hK _ _ hG (fun j hj h => ?_) rfl
      · simp only [List.mem_cons, List.not_mem_nil, or_false] at hj
        rcases hj with rfl | rfl | rfl | rfl | rfl
        · exact h
        · exact h
        · exact h
        · exact h
        · exact h
    refine .cons (o := ⟨some 65, _, _, _, _, _⟩) (ds := [2, 3]) (js := [0, 1, 2, 3, 6]) rfl (by kernel_rfl) (by kernel_rfl) ?_ ?_
    · intro x q hG hd K hK
      have d0 : x 2 = .slice (some ⟨bw, ow, none⟩) nw cw := hd 2 (by simp)
      have d1 : x 3 = .int .i64 i := hd 3 (by simp)
      have k0 : (0 : Int) ≤ (i : Int) := by omega
      have k1 : (i : Int) < (nw : Int) := by omega
      refine HidG.mk ?_
      simp only [putsA, Act.put, List.setIfInBounds_toArray, List.set_cons_zero, List.set_cons_succ, Nat.reduceAdd, Nat.zero_add] at hK ⊢
      rw [d0, d1] at hK ⊢
      go_simp
      refine hK _ _ hG (fun j hj h => ?_) rfl
      · simp only [List.mem_cons, List.not_mem_nil, or_false] at hj
        rcases hj with rfl | rfl | rfl | rfl | rfl
        · exact h
        · exact h
        · exact h
        · exact h
        · exact h
    refine .cons (o := ⟨some 66, _, _, _, _, _⟩) (ds := [4]) (js := [0, 1, 2, 3, 4]) rfl (by kernel_rfl) (by kernel_rfl) ?_ ?_
    · intro x q hG hd K hK
      have d0 : x 4 = .pointer (some ⟨bw, ow + i, none⟩) := hd 4 (by simp)
      have k0 := HW.out q hG
      refine HidG.mk ?_
      simp only [putsA, Act.put, List.setIfInBounds_toArray, List.set_cons_zero, List.set_cons_succ, Nat.reduceAdd, Nat.zero_add] at hK ⊢
      rw [d0] at hK ⊢
      go_simp
      refine hK _ _ hG (fun j hj h => ?_) rfl
      · simp only [List.mem_cons, List.not_mem_nil, or_false] at hj
        rcases hj with rfl | rfl | rfl | rfl | rfl
        · exact h
        · exact h
        · exact h
        · exact h
        · exact h
    refine .cons (o := ⟨some 67, _, _, _, _, _⟩) (ds := [1, 5]) (js := [0, 1, 2, 3, 4, 5]) rfl (by kernel_rfl) (by kernel_rfl) ?_ .nil
    · intro x q hG hd K hK
      have d0 : x 1 = .slice Av nv cv := hd 1 (by simp)
      have d1 : x 5 = .string y := hd 5 (by simp)
      have hG2 : Below V.heap.size V q := hG
      refine HidG.mk ?_
      simp only [putsA, Act.put, List.setIfInBounds_toArray, List.set_cons_zero, List.set_cons_succ, Nat.reduceAdd, Nat.zero_add] at hK ⊢
      rw [d0, d1] at hK ⊢
      go_simp
      (with_reducible refine (HH.out _ hG2).mono ?_)
      rintro e q1 ⟨rfl, hb⟩
      refine hK _ _ (hG2.trans (hb.mono hG2.size)) (fun j hj h => ?_) rfl
      · simp only [List.mem_cons, List.not_mem_nil, or_false] at hj
        rcases hj with rfl | rfl | rfl | rfl | rfl | rfl
        · exact h
        · exact h
        · exact h
        · exact h
        · exact h
        · exact h
  · intro x q hG hd K hK
    have d6 : x 6 = .bool true := hd 6 (by omega)
    refine HidG.mk ?_
    simp only [putsA, Act.put, List.setIfInBounds_toArray, List.set_cons_zero, List.set_cons_succ, Nat.reduceAdd, Nat.zero_add] at hK ⊢
    rw [d6] at hK ⊢
    go_simp
    exact hK _ _ ⟨rfl, hG⟩
  · intro x q hF
    simp only [putsA, Act.put, List.setIfInBounds_toArray, List.set_cons_zero, List.set_cons_succ, Nat.reduceAdd, Nat.zero_add]
    have e : x 7 = .bool false := hF.1
    rw [e]
    exact hf (x 0) (x 1) (x 2) (x 3) (x 4) (x 5) (x 6) q hF.2
set_option maxRecDepth 100000 in
set_option maxHeartbeats 1000000 in
theorem tvars_reg20 {V : World} {Aw : Option Addr} {nv cv g bv ov i nw cw : Nat} {y : ByteArray} (hi : i < nv) (hcv : nv ≤ cv) (HV : Hid (∀ q, Below V.heap.size V q → q.cell? ⟨g, 0, none⟩ = some (.slice (some ⟨bv, ov, none⟩) nv cv))) (HW : Hid (∀ q, Below V.heap.size V q → q.cell? ⟨bv, ov + i, none⟩ = some (.string y))) (HH : Hid (∀ q, Below V.heap.size V q → Calls Tryd.prog 30 #[.slice Aw nw cw, .string y] q fun e q1 => e = .returned (.bool true) ∧ Below q.heap.size q q1)) (HN : Hid (∀ q, Below V.heap.size V q → Calls Tryd.prog 30 #[.slice (some ⟨bv, ov, none⟩) i cv, .string y] q fun e q1 => e = .returned (.bool false) ∧ Below q.heap.size q q1)) {Q : Exit → Act → World → Prop} {ds : List Deferred} {r0 r1 r2 r3 r4 r5 r6 r8 r10 r11 r13 r14 r15 r16 r17 r18 r19 r20 r21 r22 r23 r24 r25 r26 r27 r28 r29 r30 r31 r32 r33 r34 r35 r36 r37 r38 r39 r40 r41 r42 r43 r44 r45 r46 r47 r48 r49 r50 r51 r52 r53 r54 r55 r56 r57 r58 r59 r60 r61 r62 r63 r64 r65 r66 r67 r68 r69 r70 r71 r72 r73 r74 r75 r76 r77 r78 r79 r80 r81 r82 r83 r84 r85 r86 r87 r88 r89 r90 r91 r92 r93 r94 r95 r96 : Value}
    (hf : ∀ (x0 x1 x2 x3 x4 x5 x6 x7 x8 x9 x10 x11 x12 x13 x14 x15 x16 x17 x18 : Value) (q : World), Below V.heap.size V q → Q .normal ⟨#[r0, r1, r2, r3, r4, r5, r6, .pointer (some ⟨g, 0, none⟩), r8, .slice Aw nw cw, r10, r11, .int .i64 i, r13, r14, r15, r16, r17, r18, r19, r20, r21, r22, r23, r24, r25, r26, r27, r28, r29, r30, r31, r32, r33, r34, r35, r36, r37, r38, r39, r40, r41, r42, r43, r44, r45, r46, r47, r48, r49, r50, r51, r52, r53, r54, r55, r56, r57, r58, r59, r60, r61, r62, r63, r64, r65, r66, r67, r68, r69, r70, r71, r72, r73, r74, r75, x0, x1, x2, x3, x4, x5, x6, x7, x8, x9, x10, x11, x12, x13, x14, x15, x16, x17, x18, .bool false, r96], ds⟩ q) :
    Code.wp Tryd.prog (Code.region 20 #[{ dst := some 76, op := Op.move (Operand.tmp 9), type := 28, pos := "law.go:142", after := #[], guard := none }, { dst := some 77, op := Op.fieldAddr 70 (Operand.tmp 7) 0, type := 0, pos := "law.go:142", after := #[], guard := none }, { dst := some 78, op := Op.load 28 (Operand.tmp 77), type := 28, pos := "law.go:142", after := #[{ on := 1, ground := Ground.data }], guard := none }, { dst := some 79, op := Op.move (Operand.tmp 12), type := 3, pos := "law.go:142", after := #[], guard := none }, { dst := some 80, op := Op.indexAddr 28 (Operand.tmp 78) (Operand.tmp 79), type := 0, pos := "law.go:142", after := #[{ on := 2, ground := Ground.data }, { on := 3, ground := Ground.data }], guard := none }, { dst := some 81, op := Op.load 9 (Operand.tmp 80), type := 9, pos := "law.go:142", after := #[{ on := 4, ground := Ground.data }], guard := none }, { dst := some 82, op := Op.call { callee := Callee.value (Operand.func 30), args := #[Operand.tmp 76, Operand.tmp 81], argTypes := #[28, 9] }, type := 4, pos := "law.go:142", after := #[{ on := 0, ground := Ground.data }, { on := 5, ground := Ground.data }], guard := none }, { dst := some 83, op := Op.unOp UnOp.not 4 (Operand.tmp 82), type := 4, pos := "law.go:142", after := #[{ on := 6, ground := Ground.data }], guard := none }, { dst := some 84, op := Op.move (Operand.tmp 83), type := 4, pos := "law.go:142", after := #[{ on := 7, ground := Ground.data }, { on := 6, ground := Ground.chain }], guard := none }, { dst := some 85, op := Op.fieldAddr 70 (Operand.tmp 7) 0, type := 0, pos := "law.go:142", after := #[{ on := 8, ground := Ground.guard }], guard := some (8, false) }, { dst := some 86, op := Op.load 28 (Operand.tmp 85), type := 28, pos := "law.go:142", after := #[{ on := 9, ground := Ground.data }, { on := 8, ground := Ground.guard }], guard := some (8, false) }, { dst := some 87, op := Op.move (Operand.tmp 12), type := 3, pos := "law.go:142", after := #[{ on := 8, ground := Ground.guard }], guard := some (8, false) }, { dst := some 88, op := Op.slice 28 (Operand.tmp 86) none (some (Operand.tmp 87)) none, type := 28, pos := "law.go:142", after := #[{ on := 10, ground := Ground.data }, { on := 11, ground := Ground.data }, { on := 8, ground := Ground.guard }], guard := some (8, false) }, { dst := some 89, op := Op.fieldAddr 70 (Operand.tmp 7) 0, type := 0, pos := "law.go:142", after := #[{ on := 8, ground := Ground.guard }], guard := some (8, false) }, { dst := some 90, op := Op.load 28 (Operand.tmp 89), type := 28, pos := "law.go:142", after := #[{ on := 13, ground := Ground.data }, { on := 8, ground := Ground.guard }], guard := some (8, false) }, { dst := some 91, op := Op.move (Operand.tmp 12), type := 3, pos := "law.go:142", after := #[{ on := 8, ground := Ground.guard }], guard := some (8, false) }, { dst := some 92, op := Op.indexAddr 28 (Operand.tmp 90) (Operand.tmp 91), type := 0, pos := "law.go:142", after := #[{ on := 14, ground := Ground.data }, { on := 15, ground := Ground.data }, { on := 8, ground := Ground.guard }], guard := some (8, false) }, { dst := some 93, op := Op.load 9 (Operand.tmp 92), type := 9, pos := "law.go:142", after := #[{ on := 16, ground := Ground.data }, { on := 8, ground := Ground.guard }], guard := some (8, false) }, { dst := some 94, op := Op.call { callee := Callee.value (Operand.func 30), args := #[Operand.tmp 88, Operand.tmp 93], argTypes := #[28, 9] }, type := 4, pos := "law.go:142", after := #[{ on := 12, ground := Ground.data }, { on := 17, ground := Ground.data }, { on := 8, ground := Ground.chain }, { on := 8, ground := Ground.guard }], guard := some (8, false) }, { dst := some 95, op := Op.pick (Operand.tmp 84) (Operand.const (Value.bool true)) (Operand.tmp 94), type := 4, pos := "law.go:142", after := #[{ on := 8, ground := Ground.data }, { on := 18, ground := Ground.data }], guard := none }] true) Q ⟨#[r0, r1, r2, r3, r4, r5, r6, .pointer (some ⟨g, 0, none⟩), r8, .slice Aw nw cw, r10, r11, .int .i64 i, r13, r14, r15, r16, r17, r18, r19, r20, r21, r22, r23, r24, r25, r26, r27, r28, r29, r30, r31, r32, r33, r34, r35, r36, r37, r38, r39, r40, r41, r42, r43, r44, r45, r46, r47, r48, r49, r50, r51, r52, r53, r54, r55, r56, r57, r58, r59, r60, r61, r62, r63, r64, r65, r66, r67, r68, r69, r70, r71, r72, r73, r74, r75, r76, r77, r78, r79, r80, r81, r82, r83, r84, r85, r86, r87, r88, r89, r90, r91, r92, r93, r94, r95, r96], ds⟩ V := by
  refine wp_region_rel (m := 19) (o := ⟨some 95, _, _, _, _, _⟩) (D := [some 76, some 77, some 78, some 79, some 80, some 81, some 82, some 83, some 84, some 85, some 86, some 87, some 88, some 89, some 90, some 91, some 92, some 93, some 94, some 95]) (G := GBl V) (R := RNot g i (.slice Aw nw cw) (.slice (some ⟨bv, ov, none⟩) nv cv) (.slice (some ⟨bv, ov, none⟩) i cv) ⟨bv, ov + i, none⟩ y) (FNot V) V (by kernel_rfl) (by kernel_rfl) (by kernel_rfl) (by rfl) (by kernel_rfl) (by kernel_rfl) (by kernel_rfl) ?_ ?_ ?_ ?_
  · intro x hx
    exact (Below.refl _ V).drew
  · show StepsI _ _ _ _ _ _ _ _ [0, 1, 2, 3, 4, 5, 6, 7, 8, 9, 10, 11, 12, 13, 14, 15, 16, 17, 18]
    refine .cons (o := ⟨some 76, _, _, _, _, _⟩) (ds := []) (js := [1, 2, 3, 4, 5, 7, 8, 9, 10, 11, 12, 13, 14, 15, 16, 17, 18]) rfl (by kernel_rfl) (by kernel_rfl) ?_ ?_
    · intro x q hG hd K hK
      refine HidG.mk ?_
      simp only [putsA, Act.put, List.setIfInBounds_toArray, List.set_cons_zero, List.set_cons_succ, Nat.reduceAdd, Nat.zero_add] at hK ⊢
      go_simp
      refine hK _ _ hG (fun j hj h => ?_) rfl
      · simp only [List.mem_cons, List.not_mem_nil, or_false] at hj
        rcases hj with rfl | rfl | rfl | rfl | rfl | rfl | rfl | rfl | rfl | rfl | rfl | rfl | rfl | rfl | rfl | rfl | rfl
        · exact h
        · exact h
        · exact h
        · exact h
        · exact h
        · exact h
        · exact h
        · exact h
        · exact h
        · exact h
        · exact h
        · exact h
        · exact h
        · exact h
        · exact h
        · exact h
        · exact h
    refine .cons (o := ⟨some 77, _, _, _, _, _⟩) (ds := []) (js := [0, 3, 4, 5, 6, 7, 8, 9, 10, 11, 12, 13, 14, 15, 16, 17, 18]) rfl (by kernel_rfl) (by kernel_rfl) ?_ ?_
    · intro x q hG hd K hK
      refine HidG.mk ?_
      simp only [putsA, Act.put, List.setIfInBounds_toArray, List.set_cons_zero, List.set_cons_succ, Nat.reduceAdd, Nat.zero_add] at hK ⊢
      go_simp
      refine hK _ _ hG (fun j hj h => ?_) rfl
      · simp only [List.mem_cons, List.not_mem_nil, or_false] at hj
        rcases hj with rfl | rfl | rfl | rfl | rfl | rfl | rfl | rfl | rfl | rfl | rfl | rfl | rfl | rfl | rfl | rfl | rfl
        · exact h
        · exact h
        · exact h
        · exact h
        · exact h
        · exact h
        · exact h
        · exact h
        · exact h
        · exact h
        · exact h
        · exact h
        · exact h
        · exact h
        · exact h
        · exact h
        · exact h
    refine .cons (o := ⟨some 78, _, _, _, _, _⟩) (ds := [1]) (js := [0, 1, 3, 5, 6, 7, 8, 9, 10, 11, 12, 13, 14, 15, 16, 17, 18]) rfl (by kernel_rfl) (by kernel_rfl) ?_ ?_
    · intro x q hG hd K hK
      have d0 : x 1 = .pointer (some ⟨g, 0, none⟩) := hd 1 (by simp)
      have k0 := HV.out q hG
      refine HidG.mk ?_
      simp only [putsA, Act.put, List.setIfInBounds_toArray, List.set_cons_zero, List.set_cons_succ, Nat.reduceAdd, Nat.zero_add] at hK ⊢
      rw [d0] at hK ⊢
      go_simp
      refine hK _ _ hG (fun j hj h => ?_) rfl
      · simp only [List.mem_cons, List.not_mem_nil, or_false] at hj
        rcases hj with rfl | rfl | rfl | rfl | rfl | rfl | rfl | rfl | rfl | rfl | rfl | rfl | rfl | rfl | rfl | rfl | rfl
        · exact h
        · exact h
        · exact h
        · exact h
        · exact h
        · exact h
        · exact h
        · exact h
        · exact h
        · exact h
        · exact h
        · exact h
        · exact h
        · exact h
        · exact h
        · exact h
        · exact h
    refine .cons (o := ⟨some 79, _, _, _, _, _⟩) (ds := []) (js := [0, 1, 2, 5, 6, 7, 8, 9, 10, 11, 12, 13, 14, 15, 16, 17, 18]) rfl (by kernel_rfl) (by kernel_rfl) ?_ ?_
    · intro x q hG hd K hK
      refine HidG.mk ?_
      simp only [putsA, Act.put, List.setIfInBounds_toArray, List.set_cons_zero, List.set_cons_succ, Nat.reduceAdd, Nat.zero_add] at hK ⊢
      go_simp
      refine hK _ _ hG (fun j hj h => ?_) rfl
      · simp only [List.mem_cons, List.not_mem_nil, or_false] at hj
        rcases hj with rfl | rfl | rfl | rfl | rfl | rfl | rfl | rfl | rfl | rfl | rfl | rfl | rfl | rfl | rfl | rfl | rfl
        · exact h
        · exact h
        · exact h
        · exact h
        · exact h
        · exact h
        · exact h
        · exact h
        · exact h
        · exact h
        · exact h
        · exact h
        · exact h
        · exact h
        · exact h
        · exact h
        · exact h
    refine .cons (o := ⟨some 80, _, _, _, _, _⟩) (ds := [2, 3]) (js := [0, 1, 2, 3, 6, 7, 8, 9, 10, 11, 12, 13, 14, 15, 16, 17, 18]) rfl (by kernel_rfl) (by kernel_rfl) ?_ ?_
    · intro x q hG hd K hK
      have d0 : x 2 = .slice (some ⟨bv, ov, none⟩) nv cv := hd 2 (by simp)
      have d1 : x 3 = .int .i64 i := hd 3 (by simp)
      have k0 : (0 : Int) ≤ (i : Int) := by omega
      have k1 : (i : Int) < (nv : Int) := by omega
      refine HidG.mk ?_
      simp only [putsA, Act.put, List.setIfInBounds_toArray, List.set_cons_zero, List.set_cons_succ, Nat.reduceAdd, Nat.zero_add] at hK ⊢
      rw [d0, d1] at hK ⊢
      go_simp
      refine hK _ _ hG (fun j hj h => ?_) rfl
      · simp only [List.mem_cons, List.not_mem_nil, or_false] at hj
        rcases hj with rfl | rfl | rfl | rfl | rfl | rfl | rfl | rfl | rfl | rfl | rfl | rfl | rfl | rfl | rfl | rfl | rfl
        · exact h
        · exact h
        · exact h
        · exact h
        · exact h
        · exact h
        · exact h
        · exact h
        · exact h
        · exact h
        · exact h
        · exact h
        · exact h
        · exact h
        · exact h
        · exact h
        · exact h
    refine .cons (o := ⟨some 81, _, _, _, _, _⟩) (ds := [4]) (js := [0, 1, 2, 3, 4, 7, 8, 9, 10, 11, 12, 13, 14, 15, 16, 17, 18]) rfl (by kernel_rfl) (by kernel_rfl) ?_ ?_
    · intro x q hG hd K hK
      have d0 : x 4 = .pointer (some ⟨bv, ov + i, none⟩) := hd 4 (by simp)
      have k0 := HW.out q hG
      refine HidG.mk ?_
      simp only [putsA, Act.put, List.setIfInBounds_toArray, List.set_cons_zero, List.set_cons_succ, Nat.reduceAdd, Nat.zero_add] at hK ⊢
      rw [d0] at hK ⊢
      go_simp
      refine hK _ _ hG (fun j hj h => ?_) rfl
      · simp only [List.mem_cons, List.not_mem_nil, or_false] at hj
        rcases hj with rfl | rfl | rfl | rfl | rfl | rfl | rfl | rfl | rfl | rfl | rfl | rfl | rfl | rfl | rfl | rfl | rfl
        · exact h
        · exact h
        · exact h
        · exact h
        · exact h
        · exact h
        · exact h
        · exact h
        · exact h
        · exact h
        · exact h
        · exact h
        · exact h
        · exact h
        · exact h
        · exact h
        · exact h
    refine .cons (o := ⟨some 82, _, _, _, _, _⟩) (ds := [0, 5]) (js := [0, 1, 2, 3, 4, 5, 9, 10, 11, 12, 13, 14, 15, 16, 17, 18]) rfl (by kernel_rfl) (by kernel_rfl) ?_ ?_
    · intro x q hG hd K hK
      have d0 : x 0 = .slice Aw nw cw := hd 0 (by simp)
      have d1 : x 5 = .string y := hd 5 (by simp)
      have hG2 : Below V.heap.size V q := hG
      refine HidG.mk ?_
      simp only [putsA, Act.put, List.setIfInBounds_toArray, List.set_cons_zero, List.set_cons_succ, Nat.reduceAdd, Nat.zero_add] at hK ⊢
      rw [d0, d1] at hK ⊢
      go_simp
      (with_reducible refine (HH.out _ hG2).mono ?_)
      rintro e q1 ⟨rfl, hb⟩
      refine hK _ _ (hG2.trans (hb.mono hG2.size)) (fun j hj h => ?_) rfl
      · simp only [List.mem_cons, List.not_mem_nil, or_false] at hj
        rcases hj with rfl | rfl | rfl | rfl | rfl | rfl | rfl | rfl | rfl | rfl | rfl | rfl | rfl | rfl | rfl | rfl
        · exact h
        · exact h
        · exact h
        · exact h
        · exact h
        · exact h
        · exact h
        · exact h
        · exact h
        · exact h
        · exact h
        · exact h
        · exact h
        · exact h
        · exact h
        · exact h
    refine .cons (o := ⟨some 83, _, _, _, _, _⟩) (ds := [6]) (js := [0, 1, 2, 3, 4, 5, 6, 9, 10, 11, 12, 13, 14, 15, 16, 17, 18]) rfl (by kernel_rfl) (by kernel_rfl) ?_ ?_
    · intro x q hG hd K hK
      have d0 : x 6 = .bool true := hd 6 (by simp)
      refine HidG.mk ?_
      simp only [putsA, Act.put, List.setIfInBounds_toArray, List.set_cons_zero, List.set_cons_succ, Nat.reduceAdd, Nat.zero_add] at hK ⊢
      rw [d0] at hK ⊢
      go_simp
      refine hK _ _ hG (fun j hj h => ?_) rfl
      · simp only [List.mem_cons, List.not_mem_nil, or_false] at hj
        rcases hj with rfl | rfl | rfl | rfl | rfl | rfl | rfl | rfl | rfl | rfl | rfl | rfl | rfl | rfl | rfl | rfl | rfl
        · exact h
        · exact h
        · exact h
        · exact h
        · exact h
        · exact h
        · exact h
        · exact h
        · exact h
        · exact h
        · exact h
        · exact h
        · exact h
        · exact h
        · exact h
        · exact h
        · exact h
    refine .cons (o := ⟨some 84, _, _, _, _, _⟩) (ds := [7, 6]) (js := [0, 1, 2, 3, 4, 5, 6, 7]) rfl (by kernel_rfl) (by kernel_rfl) ?_ ?_
    · intro x q hG hd K hK
      have d0 : x 7 = .bool false := hd 7 (by simp)
      refine HidG.mk ?_
      simp only [putsA, Act.put, List.setIfInBounds_toArray, List.set_cons_zero, List.set_cons_succ, Nat.reduceAdd, Nat.zero_add] at hK ⊢
      rw [d0] at hK ⊢
      go_simp
      refine hK _ _ hG (fun j hj h => ?_) rfl
      · simp only [List.mem_cons, List.not_mem_nil, or_false] at hj
        rcases hj with rfl | rfl | rfl | rfl | rfl | rfl | rfl | rfl
        · exact h
        · exact h
        · exact h
        · exact h
        · exact h
        · exact h
        · exact h
        · exact h
    refine .cons (o := ⟨some 85, _, _, _, _, _⟩) (ds := [8]) (js := [0, 1, 2, 3, 4, 5, 6, 7, 8, 11, 12, 13, 14, 15, 16, 17, 18]) rfl (by kernel_rfl) (by kernel_rfl) ?_ ?_
    · intro x q hG hd K hK
      have d8 : x 8 = .bool false := hd 8 (by simp)
      refine HidG.mk ?_
      simp only [putsA, Act.put, List.setIfInBounds_toArray, List.set_cons_zero, List.set_cons_succ, Nat.reduceAdd, Nat.zero_add] at hK ⊢
      rw [d8] at hK ⊢
      go_simp
      refine hK _ _ hG (fun j hj h => ?_) rfl
      · simp only [List.mem_cons, List.not_mem_nil, or_false] at hj
        rcases hj with rfl | rfl | rfl | rfl | rfl | rfl | rfl | rfl | rfl | rfl | rfl | rfl | rfl | rfl | rfl | rfl | rfl
        · exact h
        · exact h
        · exact h
        · exact h
        · exact h
        · exact h
        · exact h
        · exact h
        · exact h
        · exact h
        · exact h
        · exact h
        · exact h
        · exact h
        · exact h
        · exact h
        · exact h
    refine .cons (o := ⟨some 86, _, _, _, _, _⟩) (ds := [9, 8]) (js := [0, 1, 2, 3, 4, 5, 6, 7, 8, 9, 11, 13, 14, 15, 16, 17, 18]) rfl (by kernel_rfl) (by kernel_rfl) ?_ ?_
    · intro x q hG hd K hK
      have d8 : x 8 = .bool false := hd 8 (by simp)
      have d0 : x 9 = .pointer (some ⟨g, 0, none⟩) := hd 9 (by simp)
      have k0 := HV.out q hG
      refine HidG.mk ?_
      simp only [putsA, Act.put, List.setIfInBounds_toArray, List.set_cons_zero, List.set_cons_succ, Nat.reduceAdd, Nat.zero_add] at hK ⊢
      rw [d8] at hK ⊢
      rw [d0] at hK ⊢
      go_simp
      refine hK _ _ hG (fun j hj h => ?_) rfl
      · simp only [List.mem_cons, List.not_mem_nil, or_false] at hj
        rcases hj with rfl | rfl | rfl | rfl | rfl | rfl | rfl | rfl | rfl | rfl | rfl | rfl | rfl | rfl | rfl | rfl | rfl
        · exact h
        · exact h
        · exact h
        · exact h
        · exact h
        · exact h
        · exact h
        · exact h
        · exact h
        · exact h
        · exact h
        · exact h
        · exact h
        · exact h
        · exact h
        · exact h
        · exact h
    refine .cons (o := ⟨some 87, _, _, _, _, _⟩) (ds := [8]) (js := [0, 1, 2, 3, 4, 5, 6, 7, 8, 9, 10, 13, 14, 15, 16, 17, 18]) rfl (by kernel_rfl) (by kernel_rfl) ?_ ?_
    · intro x q hG hd K hK
      have d8 : x 8 = .bool false := hd 8 (by simp)
      refine HidG.mk ?_
      simp only [putsA, Act.put, List.setIfInBounds_toArray, List.set_cons_zero, List.set_cons_succ, Nat.reduceAdd, Nat.zero_add] at hK ⊢
      rw [d8] at hK ⊢
      go_simp
      refine hK _ _ hG (fun j hj h => ?_) rfl
      · simp only [List.mem_cons, List.not_mem_nil, or_false] at hj
        rcases hj with rfl | rfl | rfl | rfl | rfl | rfl | rfl | rfl | rfl | rfl | rfl | rfl | rfl | rfl | rfl | rfl | rfl
        · exact h
        · exact h
        · exact h
        · exact h
        · exact h
        · exact h
        · exact h
        · exact h
        · exact h
        · exact h
        · exact h
        · exact h
        · exact h
        · exact h
        · exact h
        · exact h
        · exact h
    refine .cons (o := ⟨some 88, _, _, _, _, _⟩) (ds := [10, 11, 8]) (js := [0, 1, 2, 3, 4, 5, 6, 7, 8, 9, 10, 11, 13, 14, 15, 16, 17]) rfl (by kernel_rfl) (by kernel_rfl) ?_ ?_
    · intro x q hG hd K hK
      have d8 : x 8 = .bool false := hd 8 (by simp)
      have d0 : x 10 = .slice (some ⟨bv, ov, none⟩) nv cv := hd 10 (by simp)
      have d1 : x 11 = .int .i64 i := hd 11 (by simp)
      have k0 : (0 : Int) ≤ (i : Int) := by omega
      have k1 : (i : Int) ≤ (cv : Int) := by omega
      have k2 : i ≤ cv := by omega
      refine HidG.mk ?_
      simp only [putsA, Act.put, List.setIfInBounds_toArray, List.set_cons_zero, List.set_cons_succ, Nat.reduceAdd, Nat.zero_add] at hK ⊢
      rw [d8] at hK ⊢
      rw [d0, d1] at hK ⊢
      go_simp
      refine hK _ _ hG (fun j hj h => ?_) rfl
      · simp only [List.mem_cons, List.not_mem_nil, or_false] at hj
        rcases hj with rfl | rfl | rfl | rfl | rfl | rfl | rfl | rfl | rfl | rfl | rfl | rfl | rfl | rfl | rfl | rfl | rfl
        · exact h
        · exact h
        · exact h
        · exact h
        · exact h
        · exact h
        · exact h
        · exact h
        · exact h
        · exact h
        · exact h
        · exact h
        · exact h
        · exact h
        · exact h
        · exact h
        · exact h
    refine .cons (o := ⟨some 89, _, _, _, _, _⟩) (ds := [8]) (js := [0, 1, 2, 3, 4, 5, 6, 7, 8, 9, 10, 11, 12, 15, 16, 17, 18]) rfl (by kernel_rfl) (by kernel_rfl) ?_ ?_
    · intro x q hG hd K hK
      have d8 : x 8 = .bool false := hd 8 (by simp)
      refine HidG.mk ?_
      simp only [putsA, Act.put, List.setIfInBounds_toArray, List.set_cons_zero, List.set_cons_succ, Nat.reduceAdd, Nat.zero_add] at hK ⊢
      rw [d8] at hK ⊢
      go_simp
      refine hK _ _ hG (fun j hj h => ?_) rfl
      · simp only [List.mem_cons, List.not_mem_nil, or_false] at hj
        rcases hj with rfl | rfl | rfl | rfl | rfl | rfl | rfl | rfl | rfl | rfl | rfl | rfl | rfl | rfl | rfl | rfl | rfl
        · exact h
        · exact h
        · exact h
        · exact h
        · exact h
        · exact h
        · exact h
        · exact h
        · exact h
        · exact h
        · exact h
        · exact h
        · exact h
        · exact h
        · exact h
        · exact h
        · exact h
    refine .cons (o := ⟨some 90, _, _, _, _, _⟩) (ds := [13, 8]) (js := [0, 1, 2, 3, 4, 5, 6, 7, 8, 9, 10, 11, 12, 13, 15, 17, 18]) rfl (by kernel_rfl) (by kernel_rfl) ?_ ?_
    · intro x q hG hd K hK
      have d8 : x 8 = .bool false := hd 8 (by simp)
      have d0 : x 13 = .pointer (some ⟨g, 0, none⟩) := hd 13 (by simp)
      have k0 := HV.out q hG
      refine HidG.mk ?_
      simp only [putsA, Act.put, List.setIfInBounds_toArray, List.set_cons_zero, List.set_cons_succ, Nat.reduceAdd, Nat.zero_add] at hK ⊢
      rw [d8] at hK ⊢
      rw [d0] at hK ⊢
      go_simp
      refine hK _ _ hG (fun j hj h => ?_) rfl
      · simp only [List.mem_cons, List.not_mem_nil, or_false] at hj
        rcases hj with rfl | rfl | rfl | rfl | rfl | rfl | rfl | rfl | rfl | rfl | rfl | rfl | rfl | rfl | rfl | rfl | rfl
        · exact h
        · exact h
        · exact h
        · exact h
        · exact h
        · exact h
        · exact h
        · exact h
        · exact h
        · exact h
        · exact h
        · exact h
        · exact h
        · exact h
        · exact h
        · exact h
        · exact h
    refine .cons (o := ⟨some 91, _, _, _, _, _⟩) (ds := [8]) (js := [0, 1, 2, 3, 4, 5, 6, 7, 8, 9, 10, 11, 12, 13, 14, 17, 18]) rfl (by kernel_rfl) (by kernel_rfl) ?_ ?_
    · intro x q hG hd K hK
      have d8 : x 8 = .bool false := hd 8 (by simp)
      refine HidG.mk ?_
      simp only [putsA, Act.put, List.setIfInBounds_toArray, List.set_cons_zero, List.set_cons_succ, Nat.reduceAdd, Nat.zero_add] at hK ⊢
      rw [d8] at hK ⊢
      go_simp
      refine hK _ _ hG (fun j hj h => ?_) rfl
      · simp only [List.mem_cons, List.not_mem_nil, or_false] at hj
        rcases hj with rfl | rfl | rfl | rfl | rfl | rfl | rfl | rfl | rfl | rfl | rfl | rfl | rfl | rfl | rfl | rfl | rfl
        · exact h
        · exact h
        · exact h
        · exact h
        · exact h
        · exact h
        · exact h
        · exact h
        · exact h
        · exact h
        · exact h
        · exact h
        · exact h
        · exact h
        · exact h
        · exact h
        · exact h
    refine .cons (o := ⟨some 92, _, _, _, _, _⟩) (ds := [14, 15, 8]) (js := [0, 1, 2, 3, 4, 5, 6, 7, 8, 9, 10, 11, 12, 13, 14, 15, 18]) rfl (by kernel_rfl) (by kernel_rfl) ?_ ?_
    · intro x q hG hd K hK
      have d8 : x 8 = .bool false := hd 8 (by simp)
      have d0 : x 14 = .slice (some ⟨bv, ov, none⟩) nv cv := hd 14 (by simp)
      have d1 : x 15 = .int .i64 i := hd 15 (by simp)
      have k0 : (0 : Int) ≤ (i : Int) := by omega
      have k1 : (i : Int) < (nv : Int) := by omega
      refine HidG.mk ?_
      simp only [putsA, Act.put, List.setIfInBounds_toArray, List.set_cons_zero, List.set_cons_succ, Nat.reduceAdd, Nat.zero_add] at hK ⊢
      rw [d8] at hK ⊢
      rw [d0, d1] at hK ⊢
      go_simp
      refine hK _ _ hG (fun j hj h => ?_) rfl
      · simp only [List.mem_cons, List.not_mem_nil, or_false] at hj
        rcases hj with rfl | rfl | rfl | rfl | rfl | rfl | rfl | rfl | rfl | rfl | rfl | rfl | rfl | rfl | rfl | rfl | rfl
        · exact h
        · exact h
        · exact h
        · exact h
        · exact h
        · exact h
        · exact h
        · exact h
        · exact h
        · exact h
        · exact h
        · exact h
        · exact h
        · exact h
        · exact h
        · exact h
        · exact h
    refine .cons (o := ⟨some 93, _, _, _, _, _⟩) (ds := [16, 8]) (js := [0, 1, 2, 3, 4, 5, 6, 7, 8, 9, 10, 11, 12, 13, 14, 15, 16]) rfl (by kernel_rfl) (by kernel_rfl) ?_ ?_
    · intro x q hG hd K hK
      have d8 : x 8 = .bool false := hd 8 (by simp)
      have d0 : x 16 = .pointer (some ⟨bv, ov + i, none⟩) := hd 16 (by simp)
      have k0 := HW.out q hG
      refine HidG.mk ?_
      simp only [putsA, Act.put, List.setIfInBounds_toArray, List.set_cons_zero, List.set_cons_succ, Nat.reduceAdd, Nat.zero_add] at hK ⊢
      rw [d8] at hK ⊢
      rw [d0] at hK ⊢
      go_simp
      refine hK _ _ hG (fun j hj h => ?_) rfl
      · simp only [List.mem_cons, List.not_mem_nil, or_false] at hj
        rcases hj with rfl | rfl | rfl | rfl | rfl | rfl | rfl | rfl | rfl | rfl | rfl | rfl | rfl | rfl | rfl | rfl | rfl
        · exact h
        · exact h
        · exact h
        · exact h
        · exact h
        · exact h
        · exact h
        · exact h
        · exact h
        · exact h
        · exact h
        · exact h
        · exact h
        · exact h
        · exact h
        · exact h
        · exact h
    refine .cons (o := ⟨some 94, _, _, _, _, _⟩) (ds := [12, 17, 8, 8]) (js := [0, 1, 2, 3, 4, 5, 6, 7, 8, 9, 10, 11, 12, 13, 14, 15, 16, 17]) rfl (by kernel_rfl) (by kernel_rfl) ?_ .nil
    · intro x q hG hd K hK
      have d8 : x 8 = .bool false := hd 8 (by simp)
      have d0 : x 12 = .slice (some ⟨bv, ov, none⟩) i cv := hd 12 (by simp)
      have d1 : x 17 = .string y := hd 17 (by simp)
      have hG2 : Below V.heap.size V q := hG
      refine HidG.mk ?_
      simp only [putsA, Act.put, List.setIfInBounds_toArray, List.set_cons_zero, List.set_cons_succ, Nat.reduceAdd, Nat.zero_add] at hK ⊢
      rw [d8] at hK ⊢
      rw [d0, d1] at hK ⊢
      go_simp
      (with_reducible refine (HN.out _ hG2).mono ?_)
      rintro e q1 ⟨rfl, hb⟩
      refine hK _ _ (hG2.trans (hb.mono hG2.size)) (fun j hj h => ?_) rfl
      · simp only [List.mem_cons, List.not_mem_nil, or_false] at hj
        rcases hj with rfl | rfl | rfl | rfl | rfl | rfl | rfl | rfl | rfl | rfl | rfl | rfl | rfl | rfl | rfl | rfl | rfl | rfl
        · exact h
        · exact h
        · exact h
        · exact h
        · exact h
        · exact h
        · exact h
        · exact h
        · exact h
        · exact h
        · exact h
        · exact h
        · exact h
        · exact h
        · exact h
        · exact h
        · exact h
        · exact h
  · intro x q hG hd K hK
    have d8 : x 8 = .bool false := hd 8 (by omega)
    have d18 : x 18 = .bool false := hd 18 (by omega)
    refine HidG.mk ?_
    simp only [putsA, Act.put, List.setIfInBounds_toArray, List.set_cons_zero, List.set_cons_succ, Nat.reduceAdd, Nat.zero_add] at hK ⊢
    rw [d8, d18] at hK ⊢
    go_simp
    exact hK _ _ ⟨rfl, hG⟩
  · intro x q hF
    simp only [putsA, Act.put, List.setIfInBounds_toArray, List.set_cons_zero, List.set_cons_succ, Nat.reduceAdd, Nat.zero_add]
    have e : x 19 = .bool false := hF.1
    rw [e]
    exact hf (x 0) (x 1) (x 2) (x 3) (x 4) (x 5) (x 6) (x 7) (x 8) (x 9) (x 10) (x 11) (x 12) (x 13) (x 14) (x 15) (x 16) (x 17) (x 18) q hF.2
end Go.Proofs.YtbdfjboojokgdaaDoor
