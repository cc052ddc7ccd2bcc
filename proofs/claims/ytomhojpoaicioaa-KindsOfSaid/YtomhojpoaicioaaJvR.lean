/- joinVars (chapter 3's solver): its two regions that draw their order. Conditions: those that each theorem names. -/
import Derived.Test.YtomhojpoaicioaaRZ
import Derived.Deep.DeepCutAuto
namespace Go.Proofs.Ytomhojpoaicioaa
open Go.RowKit

/-- Terms that lie below a bound. -/
def PB (L : Nat → Prop) (tb sb mb : Nat) (bv : Value) (B : Nat) (b : Nat) : Prop := FL L tb sb mb bv b ∧ b < B
theorem SolAt.bound {P : Nat → Prop} {w : World} {sb mb sz : Nat} {made : Int} {kn : Kn} (h : SolAt P w sb mb sz made kn) : SolAt (fun b => P b ∧ b < w.heap.size) w sb mb sz made kn := by
  refine ⟨h.c0, h.c1, h.f0, h.lt, ?_⟩
  obtain ⟨f, hm, hf⟩ := h.known
  refine ⟨f, hm, fun x => ?_⟩
  have h9 := hf x
  cases e : kn x with
  | none => rw [e] at h9; exact h9
  | some t => rw [e] at h9; obtain ⟨v, e1, e2⟩ := h9; exact ⟨v, e1, e2.bound⟩
/-- A box of what a term is known to be. -/
def Boxed (P : Nat → Prop) (V : World) (t : Tz) (u : Value) (q : World) : Prop := ∃ g A c, u = ptrZ g ∧ V.heap.size ≤ g ∧ TB P q g t A c ∧ Below V.heap.size V q
def F_jvlook (P : Nat → Prop) (V : World) (t : Tz) (x : Nat → Value) (q : World) : Prop := Boxed P V t (x 7) q
def K_jvlook2 (tb sb : Nat) (n : Int) (t : Tz) : Nat → KZ
  | 0 => .val (.pointer (some ⟨tb, 0, none⟩))
  | 1 => .val (.pointer (some ⟨tb, 0, none⟩))
  | 2 => .val (.pointer (some ⟨tb, 0, none⟩))
  | 3 => .val (.pointer (some ⟨sb, 0, none⟩))
  | 4 => .val (.int .i64 n)
  | 5 => .val (.agg #[.int .i64 1, .int .i64 n, .slice none 0 0])
  | 6 => .at t
  | 7 => .box
  | _ => .val undef
set_option maxRecDepth 100000 in
set_option maxHeartbeats 1000000 in
theorem jvlook2 {V : World} {P : Nat → Prop} {tb sb : Nat} {n : Int} {t : Tz} (hP : ∀ b, P b → b < V.heap.size) (H0 : Hid (∀ q, Below V.heap.size V q → q.cell? ⟨tb, 0, none⟩ = some (.pointer (some ⟨sb, 0, none⟩)))) (HC : Hid (∀ q, Below V.heap.size V q → Calls Try.prog 47 #[.pointer (some ⟨sb, 0, none⟩), .agg #[.int .i64 1, .int .i64 n, .slice none 0 0]] q (TermZ P q t))) {Q : Exit → Act → World → Prop} {ds : List Deferred} {r2 r3 r4 r5 r7 r8 r9 r10 r11 r12 r13 r14 r15 r16 r17 r18 r19 r20 r21 r22 r23 r24 r25 r26 r27 r28 r29 r30 r31 r32 r33 r34 r35 r36 r37 r38 r39 r40 r41 r42 r43 : Value}
    (hf : ∀ (x0 x1 x2 x3 x4 x5 x6 x7 : Value) (q : World), Boxed P V t x7 q → Q .normal ⟨#[.pointer (some ⟨tb, 0, none⟩), .int .i64 n, r2, r3, r4, r5, x7, r7, r8, r9, r10, r11, r12, r13, r14, x0, x1, x2, x3, x4, x5, x6, r22, r23, r24, r25, r26, r27, r28, r29, r30, r31, r32, r33, r34, r35, r36, r37, r38, r39, r40, r41, r42, r43], ds⟩ q) :
    Code.wp Try.prog (Code.region 2 #[{ dst := some 15, op := Op.move (Operand.tmp 0), type := 101, pos := "trial.go:63", after := #[], guard := none }, { dst := some 16, op := Op.nilCheck (Operand.tmp 15), type := 0, pos := "trial.go:63", after := #[{ on := 0, ground := Ground.data }], guard := none }, { dst := some 17, op := Op.fieldAddr 93 (Operand.tmp 16) 0, type := 0, pos := "trial.go:63", after := #[{ on := 1, ground := Ground.data }], guard := none }, { dst := some 18, op := Op.load 45 (Operand.tmp 17), type := 45, pos := "trial.go:63", after := #[{ on := 2, ground := Ground.data }], guard := none }, { dst := some 19, op := Op.move (Operand.tmp 1), type := 3, pos := "trial.go:63", after := #[], guard := none }, { dst := some 20, op := Op.call { callee := Callee.value (Operand.func 41), args := #[Operand.tmp 19], argTypes := #[3] }, type := 49, pos := "trial.go:63", after := #[{ on := 4, ground := Ground.data }], guard := none }, { dst := some 21, op := Op.call { callee := Callee.value (Operand.func 47), args := #[Operand.tmp 18, Operand.tmp 20], argTypes := #[45, 49] }, type := 49, pos := "trial.go:63", after := #[{ on := 3, ground := Ground.data }, { on := 5, ground := Ground.data }, { on := 5, ground := Ground.chain }], guard := none }, { dst := some 6, op := Op.alloc 49, type := 0, pos := "trial.go:63", after := #[], guard := none }, { dst := none, op := Op.store 49 (Operand.tmp 6) (Operand.tmp 21), type := 0, pos := "trial.go:63", after := #[{ on := 7, ground := Ground.data }, { on := 6, ground := Ground.data }, { on := 6, ground := Ground.chain }, { on := 0, ground := Ground.phase }, { on := 1, ground := Ground.phase }, { on := 2, ground := Ground.phase }, { on := 3, ground := Ground.phase }, { on := 4, ground := Ground.phase }, { on := 5, ground := Ground.phase }, { on := 6, ground := Ground.phase }, { on := 7, ground := Ground.phase }], guard := none }] true) Q ⟨#[.pointer (some ⟨tb, 0, none⟩), .int .i64 n, r2, r3, r4, r5, undef, r7, r8, r9, r10, r11, r12, r13, r14, r15, r16, r17, r18, r19, r20, r21, r22, r23, r24, r25, r26, r27, r28, r29, r30, r31, r32, r33, r34, r35, r36, r37, r38, r39, r40, r41, r42, r43], ds⟩ V := by
  refine wp_region_rel (m := 8) (o := ⟨none, _, _, _, _, _⟩) (D := [some 15, some 16, some 17, some 18, some 19, some 20, some 21, some 6, none]) (G := GZ V [7]) (R := RZ P V [7] (K_jvlook2 tb sb n t)) (F_jvlook P V t) V (by kernel_rfl) (by kernel_rfl) (by kernel_rfl) (by rfl) (by kernel_rfl) (by kernel_rfl) (by kernel_rfl) ?_ ?_ ?_ ?_
  · intro x' hx'
    refine ⟨(Below.refl _ _).drew, fun k hk b e => ?_⟩
    simp only [List.mem_cons, List.not_mem_nil, or_false] at hk
    subst hk
    have e' : undef = ptrZ b := (hx' 7 (some 6) rfl).symm.trans e
    cases e'
  · show StepsI _ _ _ _ _ _ _ _ [0, 1, 2, 3, 4, 5, 6, 7]
    refine .cons (o := ⟨some 15, _, _, _, _, _⟩) (ds := []) (js := [2, 3, 4, 5, 6, 7]) (ws := [0, 1, 2, 3, 6, 8]) rfl (by kernel_rfl) (by kernel_rfl) (by kernel_rfl) ?_ ?_
    · intro x' q hG hd hin K hK
      have HIN := Lib.hid hin
      clear hin
      refine HidG.mk ?_
      simp only [putsA, Act.put, List.setIfInBounds_toArray, List.set_cons_zero, List.set_cons_succ, Nat.reduceAdd, Nat.zero_add] at hK ⊢
      go_simp
      refine hK _ _ (by exact hG.keep (Below.refl _ _) (by decide)) (fun j hj h => ?_) (by exact rfl)
      · simp only [List.mem_cons, List.not_mem_nil, or_false] at hj
        rcases hj with rfl | rfl | rfl | rfl | rfl | rfl
        · exact rz_keep (Below.refl _ _) (by decide) (by decide) h
        · exact rz_keep (Below.refl _ _) (by decide) (by decide) h
        · exact rz_keep (Below.refl _ _) (by decide) (by decide) h
        · exact rz_keep (Below.refl _ _) (by decide) (by decide) h
        · exact rz_keep (Below.refl _ _) (by decide) (by decide) h
        · exact rz_keep (Below.refl _ _) (by decide) (by decide) h
    refine .cons (o := ⟨some 16, _, _, _, _, _⟩) (ds := [0]) (js := [0, 3, 4, 5, 6, 7]) (ws := [1, 2, 3, 6, 8]) rfl (by kernel_rfl) (by kernel_rfl) (by kernel_rfl) ?_ ?_
    · intro x' q hG hd hin K hK
      have HIN := Lib.hid hin
      clear hin
      have d0 : x' 0 = (.pointer (some ⟨tb, 0, none⟩)) := hd 0 (by simp)
      refine HidG.mk ?_
      simp only [putsA, Act.put, List.setIfInBounds_toArray, List.set_cons_zero, List.set_cons_succ, Nat.reduceAdd, Nat.zero_add] at hK ⊢
      rw [d0] at hK ⊢
      go_simp
      refine hK _ _ (by exact hG.keep (Below.refl _ _) (by decide)) (fun j hj h => ?_) (by exact rfl)
      · simp only [List.mem_cons, List.not_mem_nil, or_false] at hj
        rcases hj with rfl | rfl | rfl | rfl | rfl | rfl
        · exact rz_keep (Below.refl _ _) (by decide) (by decide) h
        · exact rz_keep (Below.refl _ _) (by decide) (by decide) h
        · exact rz_keep (Below.refl _ _) (by decide) (by decide) h
        · exact rz_keep (Below.refl _ _) (by decide) (by decide) h
        · exact rz_keep (Below.refl _ _) (by decide) (by decide) h
        · exact rz_keep (Below.refl _ _) (by decide) (by decide) h
    refine .cons (o := ⟨some 17, _, _, _, _, _⟩) (ds := [1]) (js := [0, 1, 4, 5, 6, 7]) (ws := [2, 3, 6, 8]) rfl (by kernel_rfl) (by kernel_rfl) (by kernel_rfl) ?_ ?_
    · intro x' q hG hd hin K hK
      have HIN := Lib.hid hin
      clear hin
      have d1 : x' 1 = (.pointer (some ⟨tb, 0, none⟩)) := hd 1 (by simp)
      refine HidG.mk ?_
      simp only [putsA, Act.put, List.setIfInBounds_toArray, List.set_cons_zero, List.set_cons_succ, Nat.reduceAdd, Nat.zero_add] at hK ⊢
      rw [d1] at hK ⊢
      go_simp
      refine hK _ _ (by exact hG.keep (Below.refl _ _) (by decide)) (fun j hj h => ?_) (by exact rfl)
      · simp only [List.mem_cons, List.not_mem_nil, or_false] at hj
        rcases hj with rfl | rfl | rfl | rfl | rfl | rfl
        · exact rz_keep (Below.refl _ _) (by decide) (by decide) h
        · exact rz_keep (Below.refl _ _) (by decide) (by decide) h
        · exact rz_keep (Below.refl _ _) (by decide) (by decide) h
        · exact rz_keep (Below.refl _ _) (by decide) (by decide) h
        · exact rz_keep (Below.refl _ _) (by decide) (by decide) h
        · exact rz_keep (Below.refl _ _) (by decide) (by decide) h
    refine .cons (o := ⟨some 18, _, _, _, _, _⟩) (ds := [2]) (js := [0, 1, 2, 4, 5, 7]) (ws := [3, 6, 8]) rfl (by kernel_rfl) (by kernel_rfl) (by kernel_rfl) ?_ ?_
    · intro x' q hG hd hin K hK
      have HIN := Lib.hid hin
      clear hin
      have d2 : x' 2 = (.pointer (some ⟨tb, 0, none⟩)) := hd 2 (by simp)
      have k0 := H0.out q hG.b
      refine HidG.mk ?_
      simp only [putsA, Act.put, List.setIfInBounds_toArray, List.set_cons_zero, List.set_cons_succ, Nat.reduceAdd, Nat.zero_add] at hK ⊢
      rw [d2] at hK ⊢
      go_simp
      refine hK _ _ (by exact hG.keep (Below.refl _ _) (by decide)) (fun j hj h => ?_) (by exact rfl)
      · simp only [List.mem_cons, List.not_mem_nil, or_false] at hj
        rcases hj with rfl | rfl | rfl | rfl | rfl | rfl
        · exact rz_keep (Below.refl _ _) (by decide) (by decide) h
        · exact rz_keep (Below.refl _ _) (by decide) (by decide) h
        · exact rz_keep (Below.refl _ _) (by decide) (by decide) h
        · exact rz_keep (Below.refl _ _) (by decide) (by decide) h
        · exact rz_keep (Below.refl _ _) (by decide) (by decide) h
        · exact rz_keep (Below.refl _ _) (by decide) (by decide) h
    refine .cons (o := ⟨some 19, _, _, _, _, _⟩) (ds := []) (js := [0, 1, 2, 3, 6, 7]) (ws := [4, 5, 6, 8]) rfl (by kernel_rfl) (by kernel_rfl) (by kernel_rfl) ?_ ?_
    · intro x' q hG hd hin K hK
      have HIN := Lib.hid hin
      clear hin
      refine HidG.mk ?_
      simp only [putsA, Act.put, List.setIfInBounds_toArray, List.set_cons_zero, List.set_cons_succ, Nat.reduceAdd, Nat.zero_add] at hK ⊢
      go_simp
      refine hK _ _ (by exact hG.keep (Below.refl _ _) (by decide)) (fun j hj h => ?_) (by exact rfl)
      · simp only [List.mem_cons, List.not_mem_nil, or_false] at hj
        rcases hj with rfl | rfl | rfl | rfl | rfl | rfl
        · exact rz_keep (Below.refl _ _) (by decide) (by decide) h
        · exact rz_keep (Below.refl _ _) (by decide) (by decide) h
        · exact rz_keep (Below.refl _ _) (by decide) (by decide) h
        · exact rz_keep (Below.refl _ _) (by decide) (by decide) h
        · exact rz_keep (Below.refl _ _) (by decide) (by decide) h
        · exact rz_keep (Below.refl _ _) (by decide) (by decide) h
    refine .cons (o := ⟨some 20, _, _, _, _, _⟩) (ds := [4]) (js := [0, 1, 2, 3, 4, 7]) (ws := [5, 6, 8]) rfl (by kernel_rfl) (by kernel_rfl) (by kernel_rfl) ?_ ?_
    · intro x' q hG hd hin K hK
      have HIN := Lib.hid hin
      clear hin
      have d4 : x' 4 = (.int .i64 n) := hd 4 (by simp)
      refine HidG.mk ?_
      simp only [putsA, Act.put, List.setIfInBounds_toArray, List.set_cons_zero, List.set_cons_succ, Nat.reduceAdd, Nat.zero_add] at hK ⊢
      rw [d4] at hK ⊢
      go_simp
      (with_reducible refine (variable_any _ _).mono ?_)
      rintro e q1 ⟨rfl, hb⟩
      refine hK _ _ (by exact hG.keep hb (by decide)) (fun j hj h => ?_) (by exact rfl)
      · simp only [List.mem_cons, List.not_mem_nil, or_false] at hj
        rcases hj with rfl | rfl | rfl | rfl | rfl | rfl
        · exact rz_keep hb (by decide) (by decide) h
        · exact rz_keep hb (by decide) (by decide) h
        · exact rz_keep hb (by decide) (by decide) h
        · exact rz_keep hb (by decide) (by decide) h
        · exact rz_keep hb (by decide) (by decide) h
        · exact rz_keep hb (by decide) (by decide) h
    refine .cons (o := ⟨some 21, _, _, _, _, _⟩) (ds := [3, 5, 5]) (js := [0, 1, 2, 3, 4, 5, 7]) (ws := [6, 8]) rfl (by kernel_rfl) (by kernel_rfl) (by kernel_rfl) ?_ ?_
    · intro x' q hG hd hin K hK
      have HIN := Lib.hid hin
      clear hin
      have d3 : x' 3 = (.pointer (some ⟨sb, 0, none⟩)) := hd 3 (by simp)
      have d5 : x' 5 = (.agg #[.int .i64 1, .int .i64 n, .slice none 0 0]) := hd 5 (by simp)
      refine HidG.mk ?_
      simp only [putsA, Act.put, List.setIfInBounds_toArray, List.set_cons_zero, List.set_cons_succ, Nat.reduceAdd, Nat.zero_add] at hK ⊢
      rw [d3, d5] at hK ⊢
      go_simp
      (with_reducible refine (HC.out _ hG.b).mono ?_)
      rintro e q1 ⟨tv, rfl, ht, hb⟩
      refine hK _ _ (by exact hG.keep hb (by decide)) (fun j hj h => ?_) (by exact ht)
      · simp only [List.mem_cons, List.not_mem_nil, or_false] at hj
        rcases hj with rfl | rfl | rfl | rfl | rfl | rfl | rfl
        · exact rz_keep hb (by decide) (by decide) h
        · exact rz_keep hb (by decide) (by decide) h
        · exact rz_keep hb (by decide) (by decide) h
        · exact rz_keep hb (by decide) (by decide) h
        · exact rz_keep hb (by decide) (by decide) h
        · exact rz_keep hb (by decide) (by decide) h
        · exact rz_keep hb (by decide) (by decide) h
    refine .cons (o := ⟨some 6, _, _, _, _, _⟩) (ds := []) (js := [0, 1, 2, 3, 4, 5, 6]) (ws := [7, 8]) rfl (by kernel_rfl) (by kernel_rfl) (by kernel_rfl) ?_ .nil
    · intro x' q hG hd hin K hK
      have HIN := Lib.hid hin
      clear hin
      refine HidG.mk ?_
      simp only [putsA, Act.put, List.setIfInBounds_toArray, List.set_cons_zero, List.set_cons_succ, Nat.reduceAdd, Nat.zero_add] at hK ⊢
      go_simp
      refine hK _ _ (by exact hG.new _) (fun j hj h => ?_) (by exact rz_box hG (by decide) rfl)
      · simp only [List.mem_cons, List.not_mem_nil, or_false] at hj
        rcases hj with rfl | rfl | rfl | rfl | rfl | rfl | rfl
        · exact rz_alloc _ (by decide) (fun i t => by intro e; cases e) h
        · exact rz_alloc _ (by decide) (fun i t => by intro e; cases e) h
        · exact rz_alloc _ (by decide) (fun i t => by intro e; cases e) h
        · exact rz_alloc _ (by decide) (fun i t => by intro e; cases e) h
        · exact rz_alloc _ (by decide) (fun i t => by intro e; cases e) h
        · exact rz_alloc _ (by decide) (fun i t => by intro e; cases e) h
        · exact rz_alloc _ (by decide) (fun i t => by intro e; cases e) h
  · intro x' q hG hd hin K hK
    have HIN := Lib.hid hin
    clear hin
    have d6 : ZAt P q t (x' 6) := hd 6 (by omega)
    have d7 : ∃ g, 7 ∈ [7] ∧ x' 7 = ptrZ g ∧ V.heap.size ≤ g ∧ ZB q g ∧ ∀ k ∈ [7], k ≠ 7 → x' k ≠ x' 7 := hd 7 (by omega)
    obtain ⟨g, _, d7, d8, d9, _⟩ := d7
    obtain ⟨A, c, e6⟩ := d6.form
    rw [e6] at d6
    have e0 := d9.c0
    have e1 := d9.c1
    have e2 := d9.c2
    have f0 := d9.f0
    have f1 := d9.f1
    have f2 := d9.f2
    unfold ptrZ at d7
    refine HidG.mk ?_
    simp only [putsA, Act.put, List.setIfInBounds_toArray, List.set_cons_zero, List.set_cons_succ, Nat.reduceAdd, Nat.zero_add] at hK ⊢
    rw [d7, e6] at hK ⊢
    go_simp
    refine hK undef _ ⟨g, A, c, ?_, d8, d9.put d6 (fun h => by have := hP g h; omega), put3_below hG.b d8⟩
    exact d7
  · intro x' q hF
    simp only [putsA, Act.put, List.setIfInBounds_toArray, List.set_cons_zero, List.set_cons_succ, Nat.reduceAdd, Nat.zero_add]
    exact hf (x' 0) (x' 1) (x' 2) (x' 3) (x' 4) (x' 5) (x' 6) (x' 7) q hF
def K_jvlook4 (tb sb : Nat) (n : Int) (t : Tz) : Nat → KZ
  | 0 => .val (.pointer (some ⟨tb, 0, none⟩))
  | 1 => .val (.pointer (some ⟨tb, 0, none⟩))
  | 2 => .val (.pointer (some ⟨tb, 0, none⟩))
  | 3 => .val (.pointer (some ⟨sb, 0, none⟩))
  | 4 => .val (.int .i64 n)
  | 5 => .val (.agg #[.int .i64 1, .int .i64 n, .slice none 0 0])
  | 6 => .at t
  | 7 => .box
  | _ => .val undef
set_option maxRecDepth 100000 in
set_option maxHeartbeats 1000000 in
theorem jvlook4 {V : World} {P : Nat → Prop} {tb sb : Nat} {n : Int} {t : Tz} (hP : ∀ b, P b → b < V.heap.size) (H0 : Hid (∀ q, Below V.heap.size V q → q.cell? ⟨tb, 0, none⟩ = some (.pointer (some ⟨sb, 0, none⟩)))) (HC : Hid (∀ q, Below V.heap.size V q → Calls Try.prog 47 #[.pointer (some ⟨sb, 0, none⟩), .agg #[.int .i64 1, .int .i64 n, .slice none 0 0]] q (TermZ P q t))) {Q : Exit → Act → World → Prop} {ds : List Deferred} {r1 r3 r4 r5 r6 r8 r9 r10 r11 r12 r13 r14 r15 r16 r17 r18 r19 r20 r21 r22 r23 r24 r25 r26 r27 r28 r29 r30 r31 r32 r33 r34 r35 r36 r37 r38 r39 r40 r41 r42 r43 : Value}
    (hf : ∀ (x0 x1 x2 x3 x4 x5 x6 x7 : Value) (q : World), Boxed P V t x7 q → Q .normal ⟨#[.pointer (some ⟨tb, 0, none⟩), r1, .int .i64 n, r3, r4, r5, r6, x7, r8, r9, r10, r11, r12, r13, r14, r15, r16, r17, r18, r19, r20, r21, r22, r23, r24, x0, x1, x2, x3, x4, x5, x6, r32, r33, r34, r35, r36, r37, r38, r39, r40, r41, r42, r43], ds⟩ q) :
    Code.wp Try.prog (Code.region 4 #[{ dst := some 25, op := Op.move (Operand.tmp 0), type := 101, pos := "trial.go:64", after := #[], guard := none }, { dst := some 26, op := Op.nilCheck (Operand.tmp 25), type := 0, pos := "trial.go:64", after := #[{ on := 0, ground := Ground.data }], guard := none }, { dst := some 27, op := Op.fieldAddr 93 (Operand.tmp 26) 0, type := 0, pos := "trial.go:64", after := #[{ on := 1, ground := Ground.data }], guard := none }, { dst := some 28, op := Op.load 45 (Operand.tmp 27), type := 45, pos := "trial.go:64", after := #[{ on := 2, ground := Ground.data }], guard := none }, { dst := some 29, op := Op.move (Operand.tmp 2), type := 3, pos := "trial.go:64", after := #[], guard := none }, { dst := some 30, op := Op.call { callee := Callee.value (Operand.func 41), args := #[Operand.tmp 29], argTypes := #[3] }, type := 49, pos := "trial.go:64", after := #[{ on := 4, ground := Ground.data }], guard := none }, { dst := some 31, op := Op.call { callee := Callee.value (Operand.func 47), args := #[Operand.tmp 28, Operand.tmp 30], argTypes := #[45, 49] }, type := 49, pos := "trial.go:64", after := #[{ on := 3, ground := Ground.data }, { on := 5, ground := Ground.data }, { on := 5, ground := Ground.chain }], guard := none }, { dst := some 7, op := Op.alloc 49, type := 0, pos := "trial.go:64", after := #[], guard := none }, { dst := none, op := Op.store 49 (Operand.tmp 7) (Operand.tmp 31), type := 0, pos := "trial.go:64", after := #[{ on := 7, ground := Ground.data }, { on := 6, ground := Ground.data }, { on := 6, ground := Ground.chain }, { on := 0, ground := Ground.phase }, { on := 1, ground := Ground.phase }, { on := 2, ground := Ground.phase }, { on := 3, ground := Ground.phase }, { on := 4, ground := Ground.phase }, { on := 5, ground := Ground.phase }, { on := 6, ground := Ground.phase }, { on := 7, ground := Ground.phase }], guard := none }] true) Q ⟨#[.pointer (some ⟨tb, 0, none⟩), r1, .int .i64 n, r3, r4, r5, r6, undef, r8, r9, r10, r11, r12, r13, r14, r15, r16, r17, r18, r19, r20, r21, r22, r23, r24, r25, r26, r27, r28, r29, r30, r31, r32, r33, r34, r35, r36, r37, r38, r39, r40, r41, r42, r43], ds⟩ V := by
  refine wp_region_rel (m := 8) (o := ⟨none, _, _, _, _, _⟩) (D := [some 25, some 26, some 27, some 28, some 29, some 30, some 31, some 7, none]) (G := GZ V [7]) (R := RZ P V [7] (K_jvlook4 tb sb n t)) (F_jvlook P V t) V (by kernel_rfl) (by kernel_rfl) (by kernel_rfl) (by rfl) (by kernel_rfl) (by kernel_rfl) (by kernel_rfl) ?_ ?_ ?_ ?_
  · intro x' hx'
    refine ⟨(Below.refl _ _).drew, fun k hk b e => ?_⟩
    simp only [List.mem_cons, List.not_mem_nil, or_false] at hk
    subst hk
    have e' : undef = ptrZ b := (hx' 7 (some 7) rfl).symm.trans e
    cases e'
  · show StepsI _ _ _ _ _ _ _ _ [0, 1, 2, 3, 4, 5, 6, 7]
    refine .cons (o := ⟨some 25, _, _, _, _, _⟩) (ds := []) (js := [2, 3, 4, 5, 6, 7]) (ws := [0, 1, 2, 3, 6, 8]) rfl (by kernel_rfl) (by kernel_rfl) (by kernel_rfl) ?_ ?_
    · intro x' q hG hd hin K hK
      have HIN := Lib.hid hin
      clear hin
      refine HidG.mk ?_
      simp only [putsA, Act.put, List.setIfInBounds_toArray, List.set_cons_zero, List.set_cons_succ, Nat.reduceAdd, Nat.zero_add] at hK ⊢
      go_simp
      refine hK _ _ (by exact hG.keep (Below.refl _ _) (by decide)) (fun j hj h => ?_) (by exact rfl)
      · simp only [List.mem_cons, List.not_mem_nil, or_false] at hj
        rcases hj with rfl | rfl | rfl | rfl | rfl | rfl
        · exact rz_keep (Below.refl _ _) (by decide) (by decide) h
        · exact rz_keep (Below.refl _ _) (by decide) (by decide) h
        · exact rz_keep (Below.refl _ _) (by decide) (by decide) h
        · exact rz_keep (Below.refl _ _) (by decide) (by decide) h
        · exact rz_keep (Below.refl _ _) (by decide) (by decide) h
        · exact rz_keep (Below.refl _ _) (by decide) (by decide) h
    refine .cons (o := ⟨some 26, _, _, _, _, _⟩) (ds := [0]) (js := [0, 3, 4, 5, 6, 7]) (ws := [1, 2, 3, 6, 8]) rfl (by kernel_rfl) (by kernel_rfl) (by kernel_rfl) ?_ ?_
    · intro x' q hG hd hin K hK
      have HIN := Lib.hid hin
      clear hin
      have d0 : x' 0 = (.pointer (some ⟨tb, 0, none⟩)) := hd 0 (by simp)
      refine HidG.mk ?_
      simp only [putsA, Act.put, List.setIfInBounds_toArray, List.set_cons_zero, List.set_cons_succ, Nat.reduceAdd, Nat.zero_add] at hK ⊢
      rw [d0] at hK ⊢
      go_simp
      refine hK _ _ (by exact hG.keep (Below.refl _ _) (by decide)) (fun j hj h => ?_) (by exact rfl)
      · simp only [List.mem_cons, List.not_mem_nil, or_false] at hj
        rcases hj with rfl | rfl | rfl | rfl | rfl | rfl
        · exact rz_keep (Below.refl _ _) (by decide) (by decide) h
        · exact rz_keep (Below.refl _ _) (by decide) (by decide) h
        · exact rz_keep (Below.refl _ _) (by decide) (by decide) h
        · exact rz_keep (Below.refl _ _) (by decide) (by decide) h
        · exact rz_keep (Below.refl _ _) (by decide) (by decide) h
        · exact rz_keep (Below.refl _ _) (by decide) (by decide) h
    refine .cons (o := ⟨some 27, _, _, _, _, _⟩) (ds := [1]) (js := [0, 1, 4, 5, 6, 7]) (ws := [2, 3, 6, 8]) rfl (by kernel_rfl) (by kernel_rfl) (by kernel_rfl) ?_ ?_
    · intro x' q hG hd hin K hK
      have HIN := Lib.hid hin
      clear hin
      have d1 : x' 1 = (.pointer (some ⟨tb, 0, none⟩)) := hd 1 (by simp)
      refine HidG.mk ?_
      simp only [putsA, Act.put, List.setIfInBounds_toArray, List.set_cons_zero, List.set_cons_succ, Nat.reduceAdd, Nat.zero_add] at hK ⊢
      rw [d1] at hK ⊢
      go_simp
      refine hK _ _ (by exact hG.keep (Below.refl _ _) (by decide)) (fun j hj h => ?_) (by exact rfl)
      · simp only [List.mem_cons, List.not_mem_nil, or_false] at hj
        rcases hj with rfl | rfl | rfl | rfl | rfl | rfl
        · exact rz_keep (Below.refl _ _) (by decide) (by decide) h
        · exact rz_keep (Below.refl _ _) (by decide) (by decide) h
        · exact rz_keep (Below.refl _ _) (by decide) (by decide) h
        · exact rz_keep (Below.refl _ _) (by decide) (by decide) h
        · exact rz_keep (Below.refl _ _) (by decide) (by decide) h
        · exact rz_keep (Below.refl _ _) (by decide) (by decide) h
    refine .cons (o := ⟨some 28, _, _, _, _, _⟩) (ds := [2]) (js := [0, 1, 2, 4, 5, 7]) (ws := [3, 6, 8]) rfl (by kernel_rfl) (by kernel_rfl) (by kernel_rfl) ?_ ?_
    · intro x' q hG hd hin K hK
      have HIN := Lib.hid hin
      clear hin
      have d2 : x' 2 = (.pointer (some ⟨tb, 0, none⟩)) := hd 2 (by simp)
      have k0 := H0.out q hG.b
      refine HidG.mk ?_
      simp only [putsA, Act.put, List.setIfInBounds_toArray, List.set_cons_zero, List.set_cons_succ, Nat.reduceAdd, Nat.zero_add] at hK ⊢
      rw [d2] at hK ⊢
      go_simp
      refine hK _ _ (by exact hG.keep (Below.refl _ _) (by decide)) (fun j hj h => ?_) (by exact rfl)
      · simp only [List.mem_cons, List.not_mem_nil, or_false] at hj
        rcases hj with rfl | rfl | rfl | rfl | rfl | rfl
        · exact rz_keep (Below.refl _ _) (by decide) (by decide) h
        · exact rz_keep (Below.refl _ _) (by decide) (by decide) h
        · exact rz_keep (Below.refl _ _) (by decide) (by decide) h
        · exact rz_keep (Below.refl _ _) (by decide) (by decide) h
        · exact rz_keep (Below.refl _ _) (by decide) (by decide) h
        · exact rz_keep (Below.refl _ _) (by decide) (by decide) h
    refine .cons (o := ⟨some 29, _, _, _, _, _⟩) (ds := []) (js := [0, 1, 2, 3, 6, 7]) (ws := [4, 5, 6, 8]) rfl (by kernel_rfl) (by kernel_rfl) (by kernel_rfl) ?_ ?_
    · intro x' q hG hd hin K hK
      have HIN := Lib.hid hin
      clear hin
      refine HidG.mk ?_
      simp only [putsA, Act.put, List.setIfInBounds_toArray, List.set_cons_zero, List.set_cons_succ, Nat.reduceAdd, Nat.zero_add] at hK ⊢
      go_simp
      refine hK _ _ (by exact hG.keep (Below.refl _ _) (by decide)) (fun j hj h => ?_) (by exact rfl)
      · simp only [List.mem_cons, List.not_mem_nil, or_false] at hj
        rcases hj with rfl | rfl | rfl | rfl | rfl | rfl
        · exact rz_keep (Below.refl _ _) (by decide) (by decide) h
        · exact rz_keep (Below.refl _ _) (by decide) (by decide) h
        · exact rz_keep (Below.refl _ _) (by decide) (by decide) h
        · exact rz_keep (Below.refl _ _) (by decide) (by decide) h
        · exact rz_keep (Below.refl _ _) (by decide) (by decide) h
        · exact rz_keep (Below.refl _ _) (by decide) (by decide) h
    refine .cons (o := ⟨some 30, _, _, _, _, _⟩) (ds := [4]) (js := [0, 1, 2, 3, 4, 7]) (ws := [5, 6, 8]) rfl (by kernel_rfl) (by kernel_rfl) (by kernel_rfl) ?_ ?_
    · intro x' q hG hd hin K hK
      have HIN := Lib.hid hin
      clear hin
      have d4 : x' 4 = (.int .i64 n) := hd 4 (by simp)
      refine HidG.mk ?_
      simp only [putsA, Act.put, List.setIfInBounds_toArray, List.set_cons_zero, List.set_cons_succ, Nat.reduceAdd, Nat.zero_add] at hK ⊢
      rw [d4] at hK ⊢
      go_simp
      (with_reducible refine (variable_any _ _).mono ?_)
      rintro e q1 ⟨rfl, hb⟩
      refine hK _ _ (by exact hG.keep hb (by decide)) (fun j hj h => ?_) (by exact rfl)
      · simp only [List.mem_cons, List.not_mem_nil, or_false] at hj
        rcases hj with rfl | rfl | rfl | rfl | rfl | rfl
        · exact rz_keep hb (by decide) (by decide) h
        · exact rz_keep hb (by decide) (by decide) h
        · exact rz_keep hb (by decide) (by decide) h
        · exact rz_keep hb (by decide) (by decide) h
        · exact rz_keep hb (by decide) (by decide) h
        · exact rz_keep hb (by decide) (by decide) h
    refine .cons (o := ⟨some 31, _, _, _, _, _⟩) (ds := [3, 5, 5]) (js := [0, 1, 2, 3, 4, 5, 7]) (ws := [6, 8]) rfl (by kernel_rfl) (by kernel_rfl) (by kernel_rfl) ?_ ?_
    · intro x' q hG hd hin K hK
      have HIN := Lib.hid hin
      clear hin
      have d3 : x' 3 = (.pointer (some ⟨sb, 0, none⟩)) := hd 3 (by simp)
      have d5 : x' 5 = (.agg #[.int .i64 1, .int .i64 n, .slice none 0 0]) := hd 5 (by simp)
      refine HidG.mk ?_
      simp only [putsA, Act.put, List.setIfInBounds_toArray, List.set_cons_zero, List.set_cons_succ, Nat.reduceAdd, Nat.zero_add] at hK ⊢
      rw [d3, d5] at hK ⊢
      go_simp
      (with_reducible refine (HC.out _ hG.b).mono ?_)
      rintro e q1 ⟨tv, rfl, ht, hb⟩
      refine hK _ _ (by exact hG.keep hb (by decide)) (fun j hj h => ?_) (by exact ht)
      · simp only [List.mem_cons, List.not_mem_nil, or_false] at hj
        rcases hj with rfl | rfl | rfl | rfl | rfl | rfl | rfl
        · exact rz_keep hb (by decide) (by decide) h
        · exact rz_keep hb (by decide) (by decide) h
        · exact rz_keep hb (by decide) (by decide) h
        · exact rz_keep hb (by decide) (by decide) h
        · exact rz_keep hb (by decide) (by decide) h
        · exact rz_keep hb (by decide) (by decide) h
        · exact rz_keep hb (by decide) (by decide) h
    refine .cons (o := ⟨some 7, _, _, _, _, _⟩) (ds := []) (js := [0, 1, 2, 3, 4, 5, 6]) (ws := [7, 8]) rfl (by kernel_rfl) (by kernel_rfl) (by kernel_rfl) ?_ .nil
    · intro x' q hG hd hin K hK
      have HIN := Lib.hid hin
      clear hin
      refine HidG.mk ?_
      simp only [putsA, Act.put, List.setIfInBounds_toArray, List.set_cons_zero, List.set_cons_succ, Nat.reduceAdd, Nat.zero_add] at hK ⊢
      go_simp
      refine hK _ _ (by exact hG.new _) (fun j hj h => ?_) (by exact rz_box hG (by decide) rfl)
      · simp only [List.mem_cons, List.not_mem_nil, or_false] at hj
        rcases hj with rfl | rfl | rfl | rfl | rfl | rfl | rfl
        · exact rz_alloc _ (by decide) (fun i t => by intro e; cases e) h
        · exact rz_alloc _ (by decide) (fun i t => by intro e; cases e) h
        · exact rz_alloc _ (by decide) (fun i t => by intro e; cases e) h
        · exact rz_alloc _ (by decide) (fun i t => by intro e; cases e) h
        · exact rz_alloc _ (by decide) (fun i t => by intro e; cases e) h
        · exact rz_alloc _ (by decide) (fun i t => by intro e; cases e) h
        · exact rz_alloc _ (by decide) (fun i t => by intro e; cases e) h
  · intro x' q hG hd hin K hK
    have HIN := Lib.hid hin
    clear hin
    have d6 : ZAt P q t (x' 6) := hd 6 (by omega)
    have d7 : ∃ g, 7 ∈ [7] ∧ x' 7 = ptrZ g ∧ V.heap.size ≤ g ∧ ZB q g ∧ ∀ k ∈ [7], k ≠ 7 → x' k ≠ x' 7 := hd 7 (by omega)
    obtain ⟨g, _, d7, d8, d9, _⟩ := d7
    obtain ⟨A, c, e6⟩ := d6.form
    rw [e6] at d6
    have e0 := d9.c0
    have e1 := d9.c1
    have e2 := d9.c2
    have f0 := d9.f0
    have f1 := d9.f1
    have f2 := d9.f2
    unfold ptrZ at d7
    refine HidG.mk ?_
    simp only [putsA, Act.put, List.setIfInBounds_toArray, List.set_cons_zero, List.set_cons_succ, Nat.reduceAdd, Nat.zero_add] at hK ⊢
    rw [d7, e6] at hK ⊢
    go_simp
    refine hK undef _ ⟨g, A, c, ?_, d8, d9.put d6 (fun h => by have := hP g h; omega), put3_below hG.b d8⟩
    exact d7
  · intro x' q hF
    simp only [putsA, Act.put, List.setIfInBounds_toArray, List.set_cons_zero, List.set_cons_succ, Nat.reduceAdd, Nat.zero_add]
    exact hf (x' 0) (x' 1) (x' 2) (x' 3) (x' 4) (x' 5) (x' 6) (x' 7) q hF
end Go.Proofs.Ytomhojpoaicioaa
