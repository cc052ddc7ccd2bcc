/- join (chapter 3's solver): its region with a guard. Conditions: those that each theorem names. -/
import Derived.Test.YtomhojpoaicioaaJv
namespace Go.Proofs.Ytomhojpoaicioaa
open Go.RowKit

def F_join5 (V : World) (t : Tz) (x : Nat → Value) (q : World) : Prop := x 13 = .bool (formZ t == 1) ∧ Below V.heap.size V q
def K_join5 (tb sb g c : Nat) (m : Int) (A : Option Addr) (t : Tz) : Nat → KZ
  | 0 => .val (.pointer (some ⟨g, 0, none⟩))
  | 1 => .val (.int .i64 1)
  | 2 => .val (.bool true)
  | 3 => .val (.bool true)
  | 4 => .val (.pointer (some ⟨tb, 0, none⟩))
  | 5 => .val (.pointer (some ⟨tb, 0, none⟩))
  | 6 => .val (.pointer (some ⟨tb, 0, none⟩))
  | 7 => .val (.pointer (some ⟨sb, 0, none⟩))
  | 8 => .val (.agg #[.int .i64 1, .int .i64 m, .slice A 0 c])
  | 9 => .at t
  | 10 => .val (.int .i64 (formZ t))
  | 11 => .val (.bool (formZ t == 1))
  | 12 => .val (.bool (formZ t == 1))
  | _ => .val undef
set_option maxRecDepth 100000 in
set_option maxHeartbeats 1000000 in
theorem join5 {V : World} {P : Nat → Prop} {tb sb g c : Nat} {m : Int} {A : Option Addr} {t : Tz} (H4 : Hid (∀ q, Below V.heap.size V q → q.cell? ⟨g, 0, none⟩ = some (.int .i64 1) ∧ q.cell? ⟨g, 1, none⟩ = some (.int .i64 m) ∧ q.cell? ⟨g, 2, none⟩ = some (.slice A 0 c))) (H0 : Hid (∀ q, Below V.heap.size V q → q.cell? ⟨tb, 0, none⟩ = some (.pointer (some ⟨sb, 0, none⟩)))) (HC : Hid (∀ q, Below V.heap.size V q → Calls Try.prog 47 #[.pointer (some ⟨sb, 0, none⟩), .agg #[.int .i64 1, .int .i64 m, .slice A 0 c]] q (TermZ P q t))) {Q : Exit → Act → World → Prop} {ds : List Deferred} {r1 r2 r3 r5 r6 r7 r8 r9 r10 r11 r12 r13 r14 r15 r16 r17 r18 r19 r20 r21 r22 r23 r24 r25 r26 r27 r28 r29 r30 r31 r32 r33 r34 r35 r36 r37 r38 r39 r40 r41 : Value}
    (hf : ∀ (x0 x1 x2 x3 x4 x5 x6 x7 x8 x9 x10 x11 x12 x13 : Value) (q : World), x13 = .bool (formZ t == 1) → Below V.heap.size V q → Q .normal ⟨#[.pointer (some ⟨tb, 0, none⟩), r1, r2, r3, .pointer (some ⟨g, 0, none⟩), r5, r6, r7, r8, r9, r10, r11, r12, r13, r14, r15, r16, r17, r18, r19, r20, x13, x0, x1, x2, x3, x4, x5, x6, x7, x8, x9, x10, x11, x12, r35, r36, r37, r38, r39, r40, r41], ds⟩ q) :
    Code.wp Try.prog (Code.region 5 #[{ dst := some 22, op := Op.fieldAddr 49 (Operand.tmp 4) 0, type := 0, pos := "trial.go:53", after := #[], guard := none }, { dst := some 23, op := Op.load 3 (Operand.tmp 22), type := 3, pos := "trial.go:53", after := #[{ on := 0, ground := Ground.data }], guard := none }, { dst := some 24, op := Op.binOp BinOp.eql 3 (Operand.tmp 23) (Operand.const (Value.int IntKind.i64 1)) 3, type := 4, pos := "trial.go:53", after := #[{ on := 1, ground := Ground.data }], guard := none }, { dst := some 25, op := Op.move (Operand.tmp 24), type := 4, pos := "trial.go:53", after := #[{ on := 2, ground := Ground.data }], guard := none }, { dst := some 26, op := Op.move (Operand.tmp 0), type := 101, pos := "trial.go:53", after := #[{ on := 3, ground := Ground.guard }], guard := some (3, true) }, { dst := some 27, op := Op.nilCheck (Operand.tmp 26), type := 0, pos := "trial.go:53", after := #[{ on := 4, ground := Ground.data }, { on := 3, ground := Ground.guard }], guard := some (3, true) }, { dst := some 28, op := Op.fieldAddr 93 (Operand.tmp 27) 0, type := 0, pos := "trial.go:53", after := #[{ on := 5, ground := Ground.data }, { on := 3, ground := Ground.guard }], guard := some (3, true) }, { dst := some 29, op := Op.load 45 (Operand.tmp 28), type := 45, pos := "trial.go:53", after := #[{ on := 6, ground := Ground.data }, { on := 3, ground := Ground.guard }], guard := some (3, true) }, { dst := some 30, op := Op.load 49 (Operand.tmp 4), type := 49, pos := "trial.go:53", after := #[{ on := 3, ground := Ground.guard }], guard := some (3, true) }, { dst := some 31, op := Op.call { callee := Callee.value (Operand.func 47), args := #[Operand.tmp 29, Operand.tmp 30], argTypes := #[45, 49] }, type := 49, pos := "trial.go:53", after := #[{ on := 7, ground := Ground.data }, { on := 8, ground := Ground.data }, { on := 3, ground := Ground.chain }, { on := 3, ground := Ground.guard }], guard := some (3, true) }, { dst := some 32, op := Op.field 49 (Operand.tmp 31) 0, type := 3, pos := "trial.go:53", after := #[{ on := 9, ground := Ground.data }, { on := 3, ground := Ground.guard }], guard := some (3, true) }, { dst := some 33, op := Op.binOp BinOp.eql 3 (Operand.tmp 32) (Operand.const (Value.int IntKind.i64 1)) 3, type := 4, pos := "trial.go:53", after := #[{ on := 10, ground := Ground.data }, { on := 3, ground := Ground.guard }], guard := some (3, true) }, { dst := some 34, op := Op.pick (Operand.tmp 25) (Operand.tmp 33) (Operand.const (Value.bool false)), type := 4, pos := "trial.go:53", after := #[{ on := 3, ground := Ground.data }, { on := 11, ground := Ground.data }], guard := none }, { dst := some 21, op := Op.assign (Operand.tmp 34), type := 4, pos := "trial.go:53", after := #[{ on := 12, ground := Ground.data }, { on := 9, ground := Ground.chain }], guard := none }] true) Q ⟨#[.pointer (some ⟨tb, 0, none⟩), r1, r2, r3, .pointer (some ⟨g, 0, none⟩), r5, r6, r7, r8, r9, r10, r11, r12, r13, r14, r15, r16, r17, r18, r19, r20, r21, r22, r23, r24, r25, r26, r27, r28, r29, r30, r31, r32, r33, r34, r35, r36, r37, r38, r39, r40, r41], ds⟩ V := by
  refine wp_region_rel (m := 13) (o := ⟨some 21, _, _, _, _, _⟩) (D := [some 22, some 23, some 24, some 25, some 26, some 27, some 28, some 29, some 30, some 31, some 32, some 33, some 34, some 21]) (G := GZ V []) (R := RZ P V [] (K_join5 tb sb g c m A t)) (F_join5 V t) V (by kernel_rfl) (by kernel_rfl) (by kernel_rfl) (by rfl) (by kernel_rfl) (by kernel_rfl) (by kernel_rfl) ?_ ?_ ?_ ?_
  · intro x' hx'
    exact ⟨(Below.refl _ _).drew, fun k hk => by cases hk⟩
  · show StepsI _ _ _ _ _ _ _ _ [0, 1, 2, 3, 4, 5, 6, 7, 8, 9, 10, 11, 12]
    refine .cons (o := ⟨some 22, _, _, _, _, _⟩) (ds := []) (js := [2, 3, 4, 5, 6, 7, 8, 9, 10, 11, 12]) (ws := [0, 1, 2, 3, 4, 5, 6, 7, 8, 9, 10, 11, 12, 13]) rfl (by kernel_rfl) (by kernel_rfl) (by kernel_rfl) ?_ ?_
    · intro x' q hG hd hin K hK
      have HIN := Lib.hid hin
      clear hin
      refine HidG.mk ?_
      simp only [putsA, Act.put, List.setIfInBounds_toArray, List.set_cons_zero, List.set_cons_succ, Nat.reduceAdd, Nat.zero_add] at hK ⊢
      go_simp
      refine hK _ _ (by exact hG.keep (Below.refl _ _) (by decide)) (fun j hj h => ?_) (by exact rfl)
      · simp only [List.mem_cons, List.not_mem_nil, or_false] at hj
        rcases hj with rfl | rfl | rfl | rfl | rfl | rfl | rfl | rfl | rfl | rfl | rfl
        · exact rz_keep (Below.refl _ _) (by decide) (by decide) h
        · exact rz_keep (Below.refl _ _) (by decide) (by decide) h
        · exact rz_keep (Below.refl _ _) (by decide) (by decide) h
        · exact rz_keep (Below.refl _ _) (by decide) (by decide) h
        · exact rz_keep (Below.refl _ _) (by decide) (by decide) h
        · exact rz_keep (Below.refl _ _) (by decide) (by decide) h
        · exact rz_keep (Below.refl _ _) (by decide) (by decide) h
        · exact rz_keep (Below.refl _ _) (by decide) (by decide) h
        · exact rz_keep (Below.refl _ _) (by decide) (by decide) h
        · exact rz_keep (Below.refl _ _) (by decide) (by decide) h
        · exact rz_keep (Below.refl _ _) (by decide) (by decide) h
    refine .cons (o := ⟨some 23, _, _, _, _, _⟩) (ds := [0]) (js := [0, 3, 4, 5, 6, 7, 8, 9, 10, 11, 12]) (ws := [1, 2, 3, 4, 5, 6, 7, 8, 9, 10, 11, 12, 13]) rfl (by kernel_rfl) (by kernel_rfl) (by kernel_rfl) ?_ ?_
    · intro x' q hG hd hin K hK
      have HIN := Lib.hid hin
      clear hin
      have d0 : x' 0 = (.pointer (some ⟨g, 0, none⟩)) := hd 0 (by simp)
      obtain ⟨k0, k1, k2⟩ := H4.out q hG.b
      refine HidG.mk ?_
      simp only [putsA, Act.put, List.setIfInBounds_toArray, List.set_cons_zero, List.set_cons_succ, Nat.reduceAdd, Nat.zero_add] at hK ⊢
      rw [d0] at hK ⊢
      go_simp
      refine hK _ _ (by exact hG.keep (Below.refl _ _) (by decide)) (fun j hj h => ?_) (by exact rfl)
      · simp only [List.mem_cons, List.not_mem_nil, or_false] at hj
        rcases hj with rfl | rfl | rfl | rfl | rfl | rfl | rfl | rfl | rfl | rfl | rfl
        · exact rz_keep (Below.refl _ _) (by decide) (by decide) h
        · exact rz_keep (Below.refl _ _) (by decide) (by decide) h
        · exact rz_keep (Below.refl _ _) (by decide) (by decide) h
        · exact rz_keep (Below.refl _ _) (by decide) (by decide) h
        · exact rz_keep (Below.refl _ _) (by decide) (by decide) h
        · exact rz_keep (Below.refl _ _) (by decide) (by decide) h
        · exact rz_keep (Below.refl _ _) (by decide) (by decide) h
        · exact rz_keep (Below.refl _ _) (by decide) (by decide) h
        · exact rz_keep (Below.refl _ _) (by decide) (by decide) h
        · exact rz_keep (Below.refl _ _) (by decide) (by decide) h
        · exact rz_keep (Below.refl _ _) (by decide) (by decide) h
    refine .cons (o := ⟨some 24, _, _, _, _, _⟩) (ds := [1]) (js := [0, 1, 4, 5, 6, 7, 8, 9, 10, 11, 12]) (ws := [2, 3, 4, 5, 6, 7, 8, 9, 10, 11, 12, 13]) rfl (by kernel_rfl) (by kernel_rfl) (by kernel_rfl) ?_ ?_
    · intro x' q hG hd hin K hK
      have HIN := Lib.hid hin
      clear hin
      have d1 : x' 1 = (.int .i64 1) := hd 1 (by simp)
      refine HidG.mk ?_
      simp only [putsA, Act.put, List.setIfInBounds_toArray, List.set_cons_zero, List.set_cons_succ, Nat.reduceAdd, Nat.zero_add] at hK ⊢
      rw [d1] at hK ⊢
      go_simp
      refine hK _ _ (by exact hG.keep (Below.refl _ _) (by decide)) (fun j hj h => ?_) (by exact rfl)
      · simp only [List.mem_cons, List.not_mem_nil, or_false] at hj
        rcases hj with rfl | rfl | rfl | rfl | rfl | rfl | rfl | rfl | rfl | rfl | rfl
        · exact rz_keep (Below.refl _ _) (by decide) (by decide) h
        · exact rz_keep (Below.refl _ _) (by decide) (by decide) h
        · exact rz_keep (Below.refl _ _) (by decide) (by decide) h
        · exact rz_keep (Below.refl _ _) (by decide) (by decide) h
        · exact rz_keep (Below.refl _ _) (by decide) (by decide) h
        · exact rz_keep (Below.refl _ _) (by decide) (by decide) h
        · exact rz_keep (Below.refl _ _) (by decide) (by decide) h
        · exact rz_keep (Below.refl _ _) (by decide) (by decide) h
        · exact rz_keep (Below.refl _ _) (by decide) (by decide) h
        · exact rz_keep (Below.refl _ _) (by decide) (by decide) h
        · exact rz_keep (Below.refl _ _) (by decide) (by decide) h
    refine .cons (o := ⟨some 25, _, _, _, _, _⟩) (ds := [2]) (js := [0, 1, 2]) (ws := [3, 4, 5, 6, 7, 8, 9, 10, 11, 12, 13]) rfl (by kernel_rfl) (by kernel_rfl) (by kernel_rfl) ?_ ?_
    · intro x' q hG hd hin K hK
      have HIN := Lib.hid hin
      clear hin
      have d2 : x' 2 = (.bool true) := hd 2 (by simp)
      refine HidG.mk ?_
      simp only [putsA, Act.put, List.setIfInBounds_toArray, List.set_cons_zero, List.set_cons_succ, Nat.reduceAdd, Nat.zero_add] at hK ⊢
      rw [d2] at hK ⊢
      go_simp
      refine hK _ _ (by exact hG.keep (Below.refl _ _) (by decide)) (fun j hj h => ?_) (by exact rfl)
      · simp only [List.mem_cons, List.not_mem_nil, or_false] at hj
        rcases hj with rfl | rfl | rfl
        · exact rz_keep (Below.refl _ _) (by decide) (by decide) h
        · exact rz_keep (Below.refl _ _) (by decide) (by decide) h
        · exact rz_keep (Below.refl _ _) (by decide) (by decide) h
    refine .cons (o := ⟨some 26, _, _, _, _, _⟩) (ds := [3]) (js := [0, 1, 2, 3, 6, 7, 8, 9, 10, 11, 12]) (ws := [4, 5, 6, 7, 9, 10, 11, 12, 13]) rfl (by kernel_rfl) (by kernel_rfl) (by kernel_rfl) ?_ ?_
    · intro x' q hG hd hin K hK
      have HIN := Lib.hid hin
      clear hin
      have d3 : x' 3 = (.bool true) := hd 3 (by simp)
      refine HidG.mk ?_
      simp only [putsA, Act.put, List.setIfInBounds_toArray, List.set_cons_zero, List.set_cons_succ, Nat.reduceAdd, Nat.zero_add] at hK ⊢
      rw [d3] at hK ⊢
      go_simp
      refine hK _ _ (by exact hG.keep (Below.refl _ _) (by decide)) (fun j hj h => ?_) (by exact rfl)
      · simp only [List.mem_cons, List.not_mem_nil, or_false] at hj
        rcases hj with rfl | rfl | rfl | rfl | rfl | rfl | rfl | rfl | rfl | rfl | rfl
        · exact rz_keep (Below.refl _ _) (by decide) (by decide) h
        · exact rz_keep (Below.refl _ _) (by decide) (by decide) h
        · exact rz_keep (Below.refl _ _) (by decide) (by decide) h
        · exact rz_keep (Below.refl _ _) (by decide) (by decide) h
        · exact rz_keep (Below.refl _ _) (by decide) (by decide) h
        · exact rz_keep (Below.refl _ _) (by decide) (by decide) h
        · exact rz_keep (Below.refl _ _) (by decide) (by decide) h
        · exact rz_keep (Below.refl _ _) (by decide) (by decide) h
        · exact rz_keep (Below.refl _ _) (by decide) (by decide) h
        · exact rz_keep (Below.refl _ _) (by decide) (by decide) h
        · exact rz_keep (Below.refl _ _) (by decide) (by decide) h
    refine .cons (o := ⟨some 27, _, _, _, _, _⟩) (ds := [4, 3]) (js := [0, 1, 2, 3, 4, 7, 8, 9, 10, 11, 12]) (ws := [5, 6, 7, 9, 10, 11, 12, 13]) rfl (by kernel_rfl) (by kernel_rfl) (by kernel_rfl) ?_ ?_
    · intro x' q hG hd hin K hK
      have HIN := Lib.hid hin
      clear hin
      have d3 : x' 3 = (.bool true) := hd 3 (by simp)
      have d4 : x' 4 = (.pointer (some ⟨tb, 0, none⟩)) := hd 4 (by simp)
      refine HidG.mk ?_
      simp only [putsA, Act.put, List.setIfInBounds_toArray, List.set_cons_zero, List.set_cons_succ, Nat.reduceAdd, Nat.zero_add] at hK ⊢
      rw [d3, d4] at hK ⊢
      go_simp
      refine hK _ _ (by exact hG.keep (Below.refl _ _) (by decide)) (fun j hj h => ?_) (by exact rfl)
      · simp only [List.mem_cons, List.not_mem_nil, or_false] at hj
        rcases hj with rfl | rfl | rfl | rfl | rfl | rfl | rfl | rfl | rfl | rfl | rfl
        · exact rz_keep (Below.refl _ _) (by decide) (by decide) h
        · exact rz_keep (Below.refl _ _) (by decide) (by decide) h
        · exact rz_keep (Below.refl _ _) (by decide) (by decide) h
        · exact rz_keep (Below.refl _ _) (by decide) (by decide) h
        · exact rz_keep (Below.refl _ _) (by decide) (by decide) h
        · exact rz_keep (Below.refl _ _) (by decide) (by decide) h
        · exact rz_keep (Below.refl _ _) (by decide) (by decide) h
        · exact rz_keep (Below.refl _ _) (by decide) (by decide) h
        · exact rz_keep (Below.refl _ _) (by decide) (by decide) h
        · exact rz_keep (Below.refl _ _) (by decide) (by decide) h
        · exact rz_keep (Below.refl _ _) (by decide) (by decide) h
    refine .cons (o := ⟨some 28, _, _, _, _, _⟩) (ds := [5, 3]) (js := [0, 1, 2, 3, 4, 5, 8, 9, 10, 11, 12]) (ws := [6, 7, 9, 10, 11, 12, 13]) rfl (by kernel_rfl) (by kernel_rfl) (by kernel_rfl) ?_ ?_
    · intro x' q hG hd hin K hK
      have HIN := Lib.hid hin
      clear hin
      have d3 : x' 3 = (.bool true) := hd 3 (by simp)
      have d5 : x' 5 = (.pointer (some ⟨tb, 0, none⟩)) := hd 5 (by simp)
      refine HidG.mk ?_
      simp only [putsA, Act.put, List.setIfInBounds_toArray, List.set_cons_zero, List.set_cons_succ, Nat.reduceAdd, Nat.zero_add] at hK ⊢
      rw [d3, d5] at hK ⊢
      go_simp
      refine hK _ _ (by exact hG.keep (Below.refl _ _) (by decide)) (fun j hj h => ?_) (by exact rfl)
      · simp only [List.mem_cons, List.not_mem_nil, or_false] at hj
        rcases hj with rfl | rfl | rfl | rfl | rfl | rfl | rfl | rfl | rfl | rfl | rfl
        · exact rz_keep (Below.refl _ _) (by decide) (by decide) h
        · exact rz_keep (Below.refl _ _) (by decide) (by decide) h
        · exact rz_keep (Below.refl _ _) (by decide) (by decide) h
        · exact rz_keep (Below.refl _ _) (by decide) (by decide) h
        · exact rz_keep (Below.refl _ _) (by decide) (by decide) h
        · exact rz_keep (Below.refl _ _) (by decide) (by decide) h
        · exact rz_keep (Below.refl _ _) (by decide) (by decide) h
        · exact rz_keep (Below.refl _ _) (by decide) (by decide) h
        · exact rz_keep (Below.refl _ _) (by decide) (by decide) h
        · exact rz_keep (Below.refl _ _) (by decide) (by decide) h
        · exact rz_keep (Below.refl _ _) (by decide) (by decide) h
    refine .cons (o := ⟨some 29, _, _, _, _, _⟩) (ds := [6, 3]) (js := [0, 1, 2, 3, 4, 5, 6, 8, 10, 11, 12]) (ws := [7, 9, 10, 11, 12, 13]) rfl (by kernel_rfl) (by kernel_rfl) (by kernel_rfl) ?_ ?_
    · intro x' q hG hd hin K hK
      have HIN := Lib.hid hin
      clear hin
      have d3 : x' 3 = (.bool true) := hd 3 (by simp)
      have d6 : x' 6 = (.pointer (some ⟨tb, 0, none⟩)) := hd 6 (by simp)
      have k0 := H0.out q hG.b
      refine HidG.mk ?_
      simp only [putsA, Act.put, List.setIfInBounds_toArray, List.set_cons_zero, List.set_cons_succ, Nat.reduceAdd, Nat.zero_add] at hK ⊢
      rw [d3, d6] at hK ⊢
      go_simp
      refine hK _ _ (by exact hG.keep (Below.refl _ _) (by decide)) (fun j hj h => ?_) (by exact rfl)
      · simp only [List.mem_cons, List.not_mem_nil, or_false] at hj
        rcases hj with rfl | rfl | rfl | rfl | rfl | rfl | rfl | rfl | rfl | rfl | rfl
        · exact rz_keep (Below.refl _ _) (by decide) (by decide) h
        · exact rz_keep (Below.refl _ _) (by decide) (by decide) h
        · exact rz_keep (Below.refl _ _) (by decide) (by decide) h
        · exact rz_keep (Below.refl _ _) (by decide) (by decide) h
        · exact rz_keep (Below.refl _ _) (by decide) (by decide) h
        · exact rz_keep (Below.refl _ _) (by decide) (by decide) h
        · exact rz_keep (Below.refl _ _) (by decide) (by decide) h
        · exact rz_keep (Below.refl _ _) (by decide) (by decide) h
        · exact rz_keep (Below.refl _ _) (by decide) (by decide) h
        · exact rz_keep (Below.refl _ _) (by decide) (by decide) h
        · exact rz_keep (Below.refl _ _) (by decide) (by decide) h
    refine .cons (o := ⟨some 30, _, _, _, _, _⟩) (ds := [3]) (js := [0, 1, 2, 3, 4, 5, 6, 7, 10, 11, 12]) (ws := [8, 9, 10, 11, 12, 13]) rfl (by kernel_rfl) (by kernel_rfl) (by kernel_rfl) ?_ ?_
    · intro x' q hG hd hin K hK
      have HIN := Lib.hid hin
      clear hin
      have d3 : x' 3 = (.bool true) := hd 3 (by simp)
      obtain ⟨k0, k1, k2⟩ := H4.out q hG.b
      refine HidG.mk ?_
      simp only [putsA, Act.put, List.setIfInBounds_toArray, List.set_cons_zero, List.set_cons_succ, Nat.reduceAdd, Nat.zero_add] at hK ⊢
      rw [d3] at hK ⊢
      go_simp
      refine hK _ _ (by exact hG.keep (Below.refl _ _) (by decide)) (fun j hj h => ?_) (by exact rfl)
      · simp only [List.mem_cons, List.not_mem_nil, or_false] at hj
        rcases hj with rfl | rfl | rfl | rfl | rfl | rfl | rfl | rfl | rfl | rfl | rfl
        · exact rz_keep (Below.refl _ _) (by decide) (by decide) h
        · exact rz_keep (Below.refl _ _) (by decide) (by decide) h
        · exact rz_keep (Below.refl _ _) (by decide) (by decide) h
        · exact rz_keep (Below.refl _ _) (by decide) (by decide) h
        · exact rz_keep (Below.refl _ _) (by decide) (by decide) h
        · exact rz_keep (Below.refl _ _) (by decide) (by decide) h
        · exact rz_keep (Below.refl _ _) (by decide) (by decide) h
        · exact rz_keep (Below.refl _ _) (by decide) (by decide) h
        · exact rz_keep (Below.refl _ _) (by decide) (by decide) h
        · exact rz_keep (Below.refl _ _) (by decide) (by decide) h
        · exact rz_keep (Below.refl _ _) (by decide) (by decide) h
    refine .cons (o := ⟨some 31, _, _, _, _, _⟩) (ds := [7, 8, 3, 3]) (js := [0, 1, 2, 3, 4, 5, 6, 7, 8, 11, 12]) (ws := [9, 10, 11, 12, 13]) rfl (by kernel_rfl) (by kernel_rfl) (by kernel_rfl) ?_ ?_
    · intro x' q hG hd hin K hK
      have HIN := Lib.hid hin
      clear hin
      have d3 : x' 3 = (.bool true) := hd 3 (by simp)
      have d7 : x' 7 = (.pointer (some ⟨sb, 0, none⟩)) := hd 7 (by simp)
      have d8 : x' 8 = (.agg #[.int .i64 1, .int .i64 m, .slice A 0 c]) := hd 8 (by simp)
      refine HidG.mk ?_
      simp only [putsA, Act.put, List.setIfInBounds_toArray, List.set_cons_zero, List.set_cons_succ, Nat.reduceAdd, Nat.zero_add] at hK ⊢
      rw [d3, d7, d8] at hK ⊢
      go_simp
      (with_reducible refine (HC.out _ hG.b).mono ?_)
      rintro e q1 ⟨tv, rfl, ht, hb⟩
      refine hK _ _ (by exact hG.keep hb (by decide)) (fun j hj h => ?_) (by exact ht)
      · simp only [List.mem_cons, List.not_mem_nil, or_false] at hj
        rcases hj with rfl | rfl | rfl | rfl | rfl | rfl | rfl | rfl | rfl | rfl | rfl
        · exact rz_keep hb (by decide) (by decide) h
        · exact rz_keep hb (by decide) (by decide) h
        · exact rz_keep hb (by decide) (by decide) h
        · exact rz_keep hb (by decide) (by decide) h
        · exact rz_keep hb (by decide) (by decide) h
        · exact rz_keep hb (by decide) (by decide) h
        · exact rz_keep hb (by decide) (by decide) h
        · exact rz_keep hb (by decide) (by decide) h
        · exact rz_keep hb (by decide) (by decide) h
        · exact rz_keep hb (by decide) (by decide) h
        · exact rz_keep hb (by decide) (by decide) h
    refine .cons (o := ⟨some 32, _, _, _, _, _⟩) (ds := [9, 3]) (js := [0, 1, 2, 3, 4, 5, 6, 7, 8, 9, 12]) (ws := [10, 11, 12, 13]) rfl (by kernel_rfl) (by kernel_rfl) (by kernel_rfl) ?_ ?_
    · intro x' q hG hd hin K hK
      have HIN := Lib.hid hin
      clear hin
      have d3 : x' 3 = (.bool true) := hd 3 (by simp)
      have d9 : ZAt P q t (x' 9) := hd 9 (by simp)
      obtain ⟨A9, c9, e9⟩ := d9.form
      have fl := field49 (formZ t) (numZ t) (argsZ t) A9 c9 q
      refine HidG.mk ?_
      simp only [putsA, Act.put, List.setIfInBounds_toArray, List.set_cons_zero, List.set_cons_succ, Nat.reduceAdd, Nat.zero_add] at hK ⊢
      rw [d3] at hK ⊢
      rw [e9] at hK ⊢
      go_simp
      refine hK _ _ (by exact hG.keep (Below.refl _ _) (by decide)) (fun j hj h => ?_) (by exact rfl)
      · simp only [List.mem_cons, List.not_mem_nil, or_false] at hj
        rcases hj with rfl | rfl | rfl | rfl | rfl | rfl | rfl | rfl | rfl | rfl | rfl
        · exact rz_keep (Below.refl _ _) (by decide) (by decide) h
        · exact rz_keep (Below.refl _ _) (by decide) (by decide) h
        · exact rz_keep (Below.refl _ _) (by decide) (by decide) h
        · exact rz_keep (Below.refl _ _) (by decide) (by decide) h
        · exact rz_keep (Below.refl _ _) (by decide) (by decide) h
        · exact rz_keep (Below.refl _ _) (by decide) (by decide) h
        · exact rz_keep (Below.refl _ _) (by decide) (by decide) h
        · exact rz_keep (Below.refl _ _) (by decide) (by decide) h
        · exact rz_keep (Below.refl _ _) (by decide) (by decide) h
        · exact rz_keep (Below.refl _ _) (by decide) (by decide) h
        · exact rz_keep (Below.refl _ _) (by decide) (by decide) h
    refine .cons (o := ⟨some 33, _, _, _, _, _⟩) (ds := [10, 3]) (js := [0, 1, 2, 3, 4, 5, 6, 7, 8, 9, 10]) (ws := [11, 12, 13]) rfl (by kernel_rfl) (by kernel_rfl) (by kernel_rfl) ?_ ?_
    · intro x' q hG hd hin K hK
      have HIN := Lib.hid hin
      clear hin
      have d3 : x' 3 = (.bool true) := hd 3 (by simp)
      have d10 : x' 10 = (.int .i64 (formZ t)) := hd 10 (by simp)
      refine HidG.mk ?_
      simp only [putsA, Act.put, List.setIfInBounds_toArray, List.set_cons_zero, List.set_cons_succ, Nat.reduceAdd, Nat.zero_add] at hK ⊢
      rw [d3, d10] at hK ⊢
      go_simp
      refine hK _ _ (by exact hG.keep (Below.refl _ _) (by decide)) (fun j hj h => ?_) (by exact rfl)
      · simp only [List.mem_cons, List.not_mem_nil, or_false] at hj
        rcases hj with rfl | rfl | rfl | rfl | rfl | rfl | rfl | rfl | rfl | rfl | rfl
        · exact rz_keep (Below.refl _ _) (by decide) (by decide) h
        · exact rz_keep (Below.refl _ _) (by decide) (by decide) h
        · exact rz_keep (Below.refl _ _) (by decide) (by decide) h
        · exact rz_keep (Below.refl _ _) (by decide) (by decide) h
        · exact rz_keep (Below.refl _ _) (by decide) (by decide) h
        · exact rz_keep (Below.refl _ _) (by decide) (by decide) h
        · exact rz_keep (Below.refl _ _) (by decide) (by decide) h
        · exact rz_keep (Below.refl _ _) (by decide) (by decide) h
        · exact rz_keep (Below.refl _ _) (by decide) (by decide) h
        · exact rz_keep (Below.refl _ _) (by decide) (by decide) h
        · exact rz_keep (Below.refl _ _) (by decide) (by decide) h
    refine .cons (o := ⟨some 34, _, _, _, _, _⟩) (ds := [3, 11]) (js := [0, 1, 2, 3, 4, 5, 6, 7, 8, 9, 10, 11]) (ws := [12, 13]) rfl (by kernel_rfl) (by kernel_rfl) (by kernel_rfl) ?_ .nil
    · intro x' q hG hd hin K hK
      have HIN := Lib.hid hin
      clear hin
      have d3 : x' 3 = (.bool true) := hd 3 (by simp)
      have d11 : x' 11 = (.bool (formZ t == 1)) := hd 11 (by simp)
      refine HidG.mk ?_
      simp only [putsA, Act.put, List.setIfInBounds_toArray, List.set_cons_zero, List.set_cons_succ, Nat.reduceAdd, Nat.zero_add] at hK ⊢
      rw [d3, d11] at hK ⊢
      go_simp
      refine hK _ _ (by exact hG.keep (Below.refl _ _) (by decide)) (fun j hj h => ?_) (by exact rfl)
      · simp only [List.mem_cons, List.not_mem_nil, or_false] at hj
        rcases hj with rfl | rfl | rfl | rfl | rfl | rfl | rfl | rfl | rfl | rfl | rfl | rfl
        · exact rz_keep (Below.refl _ _) (by decide) (by decide) h
        · exact rz_keep (Below.refl _ _) (by decide) (by decide) h
        · exact rz_keep (Below.refl _ _) (by decide) (by decide) h
        · exact rz_keep (Below.refl _ _) (by decide) (by decide) h
        · exact rz_keep (Below.refl _ _) (by decide) (by decide) h
        · exact rz_keep (Below.refl _ _) (by decide) (by decide) h
        · exact rz_keep (Below.refl _ _) (by decide) (by decide) h
        · exact rz_keep (Below.refl _ _) (by decide) (by decide) h
        · exact rz_keep (Below.refl _ _) (by decide) (by decide) h
        · exact rz_keep (Below.refl _ _) (by decide) (by decide) h
        · exact rz_keep (Below.refl _ _) (by decide) (by decide) h
        · exact rz_keep (Below.refl _ _) (by decide) (by decide) h
  · intro x' q hG hd hin K hK
    have HIN := Lib.hid hin
    clear hin
    have d12 : x' 12 = .bool (formZ t == 1) := hd 12 (by omega)
    refine HidG.mk ?_
    simp only [putsA, Act.put, List.setIfInBounds_toArray, List.set_cons_zero, List.set_cons_succ, Nat.reduceAdd, Nat.zero_add] at hK ⊢
    rw [d12] at hK ⊢
    go_simp
    exact hK (.bool (formZ t == 1)) _ ⟨rfl, hG.b⟩
  · intro x' q hF
    simp only [putsA, Act.put, List.setIfInBounds_toArray, List.set_cons_zero, List.set_cons_succ, Nat.reduceAdd, Nat.zero_add]
    exact hf (x' 0) (x' 1) (x' 2) (x' 3) (x' 4) (x' 5) (x' 6) (x' 7) (x' 8) (x' 9) (x' 10) (x' 11) (x' 12) (x' 13) q hF.1 hF.2
end Go.Proofs.Ytomhojpoaicioaa
