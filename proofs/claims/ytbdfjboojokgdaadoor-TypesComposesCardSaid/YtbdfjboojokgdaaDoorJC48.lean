/- TypesComposes' two regions that put types into types (chapter 4), each by itself. Conditions: those that each theorem names. -/
import Derived.Test.YtbdfjboojokgdaaDoorJC47
namespace Go.Proofs.YtbdfjboojokgdaaDoor
open Go.RowKit

def sA : ByteArray := ⟨#[97]⟩
def sB : ByteArray := ⟨#[98]⟩
/-- What an operation's slot holds. -/
inductive KR where
  | val (v : Value)
  | strs (l : List ByteArray)
  | tys (l : List Ty)
  | ty (t : Ty)
  | box
  | any
def RK (X : World) (n : Nat) (K : Nat → KR) (j : Nat) (x : Nat → Value) (q : World) : Prop :=
  match K j with
  | .val v => x j = v
  | .strs l => StrsAt (fun _ => True) q (x j) l
  | .tys l => TysAt (fun _ => True) q l (x j)
  | .ty t => TyAt (fun b => X.heap.size ≤ b ∧ x n ≠ .pointer (some ⟨b, 0, none⟩)) q t (x j)
  | .box => ∃ g, x j = .pointer (some ⟨g, 0, none⟩) ∧ X.heap.size ≤ g ∧ zBox q g
  | .any => True
theorem rk_keep {X q q1 : World} {n : Nat} {K : Nat → KR} {u : Value} {x : Nat → Value} {i j : Nat} (hb : Below q.heap.size q q1) (hj : j ≠ i) (hi : n ≠ i) (h : RK X n K j x q) : RK X n K j (updV x i u) q1 := by
  have e : ∀ l, l ≠ i → updV x i u l = x l := fun l hl => if_neg hl
  unfold RK at h ⊢
  cases hk : K j with
  | val v => rw [hk] at h; exact (e j hj).trans h
  | strs l => rw [hk] at h; show StrsAt _ q1 (updV x i u j) l; rw [e j hj]; exact StrsAt.on h hb
  | tys l => rw [hk] at h; show TysAt _ q1 l (updV x i u j); rw [e j hj]; exact TysAt.on h hb
  | ty t => rw [hk] at h; show TyAt (fun b => X.heap.size ≤ b ∧ updV x i u n ≠ _) q1 t (updV x i u j); rw [e j hj, e n hi]; exact TyAt.on h hb
  | box => rw [hk] at h; obtain ⟨g, e1, e2, e3⟩ := h; exact ⟨g, (e j hj).trans e1, e2, Box4.on e3 hb⟩
  | any => trivial
theorem rk_new {X q : World} {n : Nat} {K : Nat → KR} {x : Nat → Value} {j : Nat} {o : Obj} (hj : j ≠ n) (h : RK X n K j x q) : RK X n K j (updV x n (.pointer (some ⟨q.heap.size, 0, none⟩))) (q.alloc o) := by
  have e : ∀ l, l ≠ n → updV x n (.pointer (some ⟨q.heap.size, 0, none⟩)) l = x l := fun l hl => if_neg hl
  have en : updV x n (.pointer (some ⟨q.heap.size, 0, none⟩)) n = .pointer (some ⟨q.heap.size, 0, none⟩) := if_pos rfl
  have hb := below_new q o
  unfold RK at h ⊢
  cases hk : K j with
  | val v => rw [hk] at h; exact (e j hj).trans h
  | strs l => rw [hk] at h; show StrsAt _ _ (updV x n _ j) l; rw [e j hj]; exact StrsAt.on h hb
  | tys l => rw [hk] at h; show TysAt _ _ l (updV x n _ j); rw [e j hj]; exact TysAt.on h hb
  | ty t =>
    rw [hk] at h
    show TyAt (fun b => X.heap.size ≤ b ∧ updV x n _ n ≠ _) _ t (updV x n _ j)
    rw [e j hj, en]
    have h8 : TyAt _ q t (x j) := h
    exact (h8.bound.on hb).mono (fun b hb1 => ⟨hb1.1.1, fun e => by
      injection e with h9; injection h9 with h9; injection h9 with h9; exact absurd hb1.2 (by omega)⟩)
  | box => rw [hk] at h; obtain ⟨g, e1, e2, e3⟩ := h; exact ⟨g, (e j hj).trans e1, e2, Box4.on e3 hb⟩
  | any => trivial
theorem tys_of {P : Nat → Prop} {q : World} {a : Ty} {a0 a1 a2 a3 : Value} (h : TyAt P q a (.agg #[a0, a1, a2, a3])) (t : TypeId) : TysAt (fun _ => True) (q.alloc (.cells #[a0, a1, a2, a3] t)) [a] (.slice (some ⟨q.heap.size, 0, none⟩) 1 1) :=
  TysAt.all (one_new h.all t 1 (Nat.le_refl _) (by unfold maxLen; omega))
def FK (X : World) (n : Nat) (t : Ty) (x : Nat → Value) (q : World) : Prop := VarTy X t (x n) q
def K6c (v0 v1 v2 : Value) (t x y : Ty) : Nat → KR
  | 0 => .val v0
  | 1 => .strs [sA]
  | 2 => .val v1
  | 3 => .tys [x]
  | 4 => .ty (t.sub [(sA, x)])
  | 5 => .strs [sB]
  | 6 => .val v2
  | 7 => .tys [y]
  | 8 => .ty ((t.sub [(sA, x)]).sub [(sB, y)])
  | 9 => .box
  | _ => .any
set_option maxRecDepth 100000 in
set_option maxHeartbeats 1000000 in
theorem comp_reg6 {V : World} {t x y : Ty} {f0 n0 : Int} {s0 : ByteArray} {A0 : Option Addr} {l0 c0 g0 : Nat} {f1 n1 : Int} {s1 : ByteArray} {A1 : Option Addr} {l1 c1 g1 : Nat} {f2 n2 : Int} {s2 : ByteArray} {A2 : Option Addr} {l2 c2 g2 : Nat} (HQ0 : Hid (Box4 V g0 (.int .i64 f0) (.int .i64 n0) (.string s0) (.slice A0 l0 c0))) (HT0 : Hid (TyAt (fun _ => True) V t (.agg #[.int .i64 f0, .int .i64 n0, .string s0, .slice A0 l0 c0]))) (HQ1 : Hid (Box4 V g1 (.int .i64 f1) (.int .i64 n1) (.string s1) (.slice A1 l1 c1))) (HT1 : Hid (TyAt (fun _ => True) V x (.agg #[.int .i64 f1, .int .i64 n1, .string s1, .slice A1 l1 c1]))) (HQ2 : Hid (Box4 V g2 (.int .i64 f2) (.int .i64 n2) (.string s2) (.slice A2 l2 c2))) (HT2 : Hid (TyAt (fun _ => True) V y (.agg #[.int .i64 f2, .int .i64 n2, .string s2, .slice A2 l2 c2]))) (ft : Fit 97 t) (fx : Fit 97 x) (fy : Fit 97 y) (htab : TabW V) {Q : Exit → Act → World → Prop} {ds : List Deferred} {r0 r1 r2 r3 r4 r5 r6 r11 r12 r13 r14 r15 r16 r17 r18 r19 r20 r21 r22 r23 r24 r25 r26 r27 r28 r29 r30 r31 r32 r33 r34 r35 r36 r37 r38 r39 r40 r41 r42 r43 r44 r45 r46 r47 r48 r49 : Value}
    (hf : ∀ (x0 x1 x2 x3 x4 x5 x6 x7 x8 x9 : Value) (q : World), VarTy V ((t.sub [(sA, x)]).sub [(sB, y)]) x9 q → Q .normal ⟨#[r0, r1, r2, r3, r4, r5, r6, .pointer (some ⟨g0, 0, none⟩), .pointer (some ⟨g1, 0, none⟩), .pointer (some ⟨g2, 0, none⟩), x9, r11, r12, r13, r14, r15, r16, r17, r18, r19, r20, r21, x0, x1, x2, x3, x4, x5, x6, x7, x8, r31, r32, r33, r34, r35, r36, r37, r38, r39, r40, r41, r42, r43, r44, r45, r46, r47, r48, r49], ds⟩ q) :
    Code.wp Tryd.prog (Code.region 6 #[{ dst := some 22, op := Op.load 25 (Operand.tmp 7), type := 25, pos := "law.go:149", after := #[], guard := none }, { dst := some 23, op := Op.buildSlice 28 1 #[(0, Operand.const (Value.string { data := #[97] }))], type := 28, pos := "law.go:149", after := #[], guard := none }, { dst := some 24, op := Op.load 25 (Operand.tmp 8), type := 25, pos := "law.go:149", after := #[], guard := none }, { dst := some 25, op := Op.buildSlice 23 1 #[(0, Operand.tmp 24)], type := 23, pos := "law.go:149", after := #[{ on := 2, ground := Ground.data }], guard := none }, { dst := some 26, op := Op.call { callee := Callee.value (Operand.func 29), args := #[Operand.tmp 22, Operand.tmp 23, Operand.tmp 25], argTypes := #[25, 28, 23] }, type := 25, pos := "law.go:149", after := #[{ on := 0, ground := Ground.data }, { on := 1, ground := Ground.data }, { on := 3, ground := Ground.data }], guard := none }, { dst := some 27, op := Op.buildSlice 28 1 #[(0, Operand.const (Value.string { data := #[98] }))], type := 28, pos := "law.go:149", after := #[], guard := none }, { dst := some 28, op := Op.load 25 (Operand.tmp 9), type := 25, pos := "law.go:149", after := #[], guard := none }, { dst := some 29, op := Op.buildSlice 23 1 #[(0, Operand.tmp 28)], type := 23, pos := "law.go:149", after := #[{ on := 6, ground := Ground.data }], guard := none }, { dst := some 30, op := Op.call { callee := Callee.value (Operand.func 29), args := #[Operand.tmp 26, Operand.tmp 27, Operand.tmp 29], argTypes := #[25, 28, 23] }, type := 25, pos := "law.go:149", after := #[{ on := 4, ground := Ground.data }, { on := 5, ground := Ground.data }, { on := 7, ground := Ground.data }, { on := 4, ground := Ground.chain }], guard := none }, { dst := some 10, op := Op.alloc 25, type := 0, pos := "law.go:149", after := #[], guard := none }, { dst := none, op := Op.store 25 (Operand.tmp 10) (Operand.tmp 30), type := 0, pos := "law.go:149", after := #[{ on := 9, ground := Ground.data }, { on := 8, ground := Ground.data }, { on := 8, ground := Ground.chain }, { on := 0, ground := Ground.phase }, { on := 1, ground := Ground.phase }, { on := 2, ground := Ground.phase }, { on := 3, ground := Ground.phase }, { on := 4, ground := Ground.phase }, { on := 5, ground := Ground.phase }, { on := 6, ground := Ground.phase }, { on := 7, ground := Ground.phase }, { on := 8, ground := Ground.phase }, { on := 9, ground := Ground.phase }], guard := none }] true) Q ⟨#[r0, r1, r2, r3, r4, r5, r6, .pointer (some ⟨g0, 0, none⟩), .pointer (some ⟨g1, 0, none⟩), .pointer (some ⟨g2, 0, none⟩), undef, r11, r12, r13, r14, r15, r16, r17, r18, r19, r20, r21, r22, r23, r24, r25, r26, r27, r28, r29, r30, r31, r32, r33, r34, r35, r36, r37, r38, r39, r40, r41, r42, r43, r44, r45, r46, r47, r48, r49], ds⟩ V := by
  refine wp_region_rel (m := 10) (o := ⟨none, _, _, _, _, _⟩) (D := [some 22, some 23, some 24, some 25, some 26, some 27, some 28, some 29, some 30, some 10, none]) (G := GAll V 9) (R := RK V 9 (K6c (.agg #[.int .i64 f0, .int .i64 n0, .string s0, .slice A0 l0 c0]) (.agg #[.int .i64 f1, .int .i64 n1, .string s1, .slice A1 l1 c1]) (.agg #[.int .i64 f2, .int .i64 n2, .string s2, .slice A2 l2 c2]) t x y)) (FK V 9 ((t.sub [(sA, x)]).sub [(sB, y)])) V (by kernel_rfl) (by kernel_rfl) (by kernel_rfl) (by rfl) (by kernel_rfl) (by kernel_rfl) (by kernel_rfl) ?_ ?_ ?_ ?_
  · intro x' hx'
    have h4 := hx' 9 10 rfl
    exact ⟨(Below.refl _ V).drew, fun b hb => by rw [h4] at hb; cases hb⟩
  · show StepsI _ _ _ _ _ _ _ _ [0, 1, 2, 3, 4, 5, 6, 7, 8, 9]
    refine .cons (o := ⟨some 22, _, _, _, _, _⟩) (ds := []) (js := [1, 2, 3, 5, 6, 7, 8, 9]) rfl (by kernel_rfl) (by kernel_rfl) ?_ ?_
    · intro x' q hG hd K hK
      have hbx := HQ0.out.on hG.b
      have k0 := hbx.2.1
      have k1 := hbx.2.2.1
      have k2 := hbx.2.2.2.1
      have k3 := hbx.2.2.2.2.1
      clear hbx
      refine HidG.mk ?_
      simp only [putsA, Act.put, List.setIfInBounds_toArray, List.set_cons_zero, List.set_cons_succ, Nat.reduceAdd, Nat.zero_add] at hK ⊢
      go_simp
      refine hK _ _ hG.to (fun j hj h => ?_) (by exact rfl)
      · simp only [List.mem_cons, List.not_mem_nil, or_false] at hj
        rcases hj with rfl | rfl | rfl | rfl | rfl | rfl | rfl | rfl
        · exact rk_keep (Below.refl _ _) (by decide) (by decide) h
        · exact rk_keep (Below.refl _ _) (by decide) (by decide) h
        · exact rk_keep (Below.refl _ _) (by decide) (by decide) h
        · exact rk_keep (Below.refl _ _) (by decide) (by decide) h
        · exact rk_keep (Below.refl _ _) (by decide) (by decide) h
        · exact rk_keep (Below.refl _ _) (by decide) (by decide) h
        · exact rk_keep (Below.refl _ _) (by decide) (by decide) h
        · exact rk_keep (Below.refl _ _) (by decide) (by decide) h
    refine .cons (o := ⟨some 23, _, _, _, _, _⟩) (ds := []) (js := [0, 2, 3, 5, 6, 7, 8, 9]) rfl (by kernel_rfl) (by kernel_rfl) ?_ ?_
    · intro x' q hG hd K hK
      refine HidG.mk ?_
      simp only [putsA, Act.put, List.setIfInBounds_toArray, List.set_cons_zero, List.set_cons_succ, Nat.reduceAdd, Nat.zero_add] at hK ⊢
      go_simp
      refine hK _ _ (hG.on (below_new q _)) (fun j hj h => ?_) (by exact strs_one q sA _)
      · simp only [List.mem_cons, List.not_mem_nil, or_false] at hj
        rcases hj with rfl | rfl | rfl | rfl | rfl | rfl | rfl | rfl
        · exact rk_keep (below_new q _) (by decide) (by decide) h
        · exact rk_keep (below_new q _) (by decide) (by decide) h
        · exact rk_keep (below_new q _) (by decide) (by decide) h
        · exact rk_keep (below_new q _) (by decide) (by decide) h
        · exact rk_keep (below_new q _) (by decide) (by decide) h
        · exact rk_keep (below_new q _) (by decide) (by decide) h
        · exact rk_keep (below_new q _) (by decide) (by decide) h
        · exact rk_keep (below_new q _) (by decide) (by decide) h
    refine .cons (o := ⟨some 24, _, _, _, _, _⟩) (ds := []) (js := [0, 1, 4, 5, 6, 7, 8, 9]) rfl (by kernel_rfl) (by kernel_rfl) ?_ ?_
    · intro x' q hG hd K hK
      have hbx := HQ1.out.on hG.b
      have k0 := hbx.2.1
      have k1 := hbx.2.2.1
      have k2 := hbx.2.2.2.1
      have k3 := hbx.2.2.2.2.1
      clear hbx
      refine HidG.mk ?_
      simp only [putsA, Act.put, List.setIfInBounds_toArray, List.set_cons_zero, List.set_cons_succ, Nat.reduceAdd, Nat.zero_add] at hK ⊢
      go_simp
      refine hK _ _ hG.to (fun j hj h => ?_) (by exact rfl)
      · simp only [List.mem_cons, List.not_mem_nil, or_false] at hj
        rcases hj with rfl | rfl | rfl | rfl | rfl | rfl | rfl | rfl
        · exact rk_keep (Below.refl _ _) (by decide) (by decide) h
        · exact rk_keep (Below.refl _ _) (by decide) (by decide) h
        · exact rk_keep (Below.refl _ _) (by decide) (by decide) h
        · exact rk_keep (Below.refl _ _) (by decide) (by decide) h
        · exact rk_keep (Below.refl _ _) (by decide) (by decide) h
        · exact rk_keep (Below.refl _ _) (by decide) (by decide) h
        · exact rk_keep (Below.refl _ _) (by decide) (by decide) h
        · exact rk_keep (Below.refl _ _) (by decide) (by decide) h
    refine .cons (o := ⟨some 25, _, _, _, _, _⟩) (ds := [2]) (js := [0, 1, 2, 5, 6, 7, 8, 9]) rfl (by kernel_rfl) (by kernel_rfl) ?_ ?_
    · intro x' q hG hd K hK
      have d2 : x' 2 = .agg #[.int .i64 f1, .int .i64 n1, .string s1, .slice A1 l1 c1] := hd 2 (by simp)
      refine HidG.mk ?_
      simp only [putsA, Act.put, List.setIfInBounds_toArray, List.set_cons_zero, List.set_cons_succ, Nat.reduceAdd, Nat.zero_add] at hK ⊢
      rw [d2] at hK ⊢
      go_simp
      refine hK _ _ (hG.on (below_new q _)) (fun j hj h => ?_) (by exact tys_of (HT1.out.on hG.b) _)
      · simp only [List.mem_cons, List.not_mem_nil, or_false] at hj
        rcases hj with rfl | rfl | rfl | rfl | rfl | rfl | rfl | rfl
        · exact rk_keep (below_new q _) (by decide) (by decide) h
        · exact rk_keep (below_new q _) (by decide) (by decide) h
        · exact rk_keep (below_new q _) (by decide) (by decide) h
        · exact rk_keep (below_new q _) (by decide) (by decide) h
        · exact rk_keep (below_new q _) (by decide) (by decide) h
        · exact rk_keep (below_new q _) (by decide) (by decide) h
        · exact rk_keep (below_new q _) (by decide) (by decide) h
        · exact rk_keep (below_new q _) (by decide) (by decide) h
    refine .cons (o := ⟨some 26, _, _, _, _, _⟩) (ds := [0, 1, 3]) (js := [0, 1, 2, 3, 5, 6, 7, 9]) rfl (by kernel_rfl) (by kernel_rfl) ?_ ?_
    · intro x' q hG hd K hK
      have d0 : x' 0 = .agg #[.int .i64 f0, .int .i64 n0, .string s0, .slice A0 l0 c0] := hd 0 (by simp)
      have d1 : StrsAt (fun _ => True) q (x' 1) [sA] := hd 1 (by simp)
      have d3 : TysAt (fun _ => True) q [x] (x' 3) := hd 3 (by simp)
      have hcall := subst_one (HT0.out.on hG.b) d1 d3 ft fx (by decide) (by omega) (by omega) (htab.on hG.b)
      refine HidG.mk ?_
      simp only [putsA, Act.put, List.setIfInBounds_toArray, List.set_cons_zero, List.set_cons_succ, Nat.reduceAdd, Nat.zero_add] at hK ⊢
      rw [d0] at hK ⊢
      go_simp
      (with_reducible refine hcall.mono ?_)
      rintro e q1 ⟨u, rfl, ht, hb⟩
      refine hK _ _ (hG.on hb) (fun j hj h => ?_) (by exact ht.mono (fun b hb1 => ⟨Nat.le_trans hG.b.size hb1, fun e => absurd (hG.lt b e) (Nat.not_lt.2 hb1)⟩))
      · simp only [List.mem_cons, List.not_mem_nil, or_false] at hj
        rcases hj with rfl | rfl | rfl | rfl | rfl | rfl | rfl | rfl
        · exact rk_keep hb (by decide) (by decide) h
        · exact rk_keep hb (by decide) (by decide) h
        · exact rk_keep hb (by decide) (by decide) h
        · exact rk_keep hb (by decide) (by decide) h
        · exact rk_keep hb (by decide) (by decide) h
        · exact rk_keep hb (by decide) (by decide) h
        · exact rk_keep hb (by decide) (by decide) h
        · exact rk_keep hb (by decide) (by decide) h
    refine .cons (o := ⟨some 27, _, _, _, _, _⟩) (ds := []) (js := [0, 1, 2, 3, 4, 6, 7, 9]) rfl (by kernel_rfl) (by kernel_rfl) ?_ ?_
    · intro x' q hG hd K hK
      refine HidG.mk ?_
      simp only [putsA, Act.put, List.setIfInBounds_toArray, List.set_cons_zero, List.set_cons_succ, Nat.reduceAdd, Nat.zero_add] at hK ⊢
      go_simp
      refine hK _ _ (hG.on (below_new q _)) (fun j hj h => ?_) (by exact strs_one q sB _)
      · simp only [List.mem_cons, List.not_mem_nil, or_false] at hj
        rcases hj with rfl | rfl | rfl | rfl | rfl | rfl | rfl | rfl
        · exact rk_keep (below_new q _) (by decide) (by decide) h
        · exact rk_keep (below_new q _) (by decide) (by decide) h
        · exact rk_keep (below_new q _) (by decide) (by decide) h
        · exact rk_keep (below_new q _) (by decide) (by decide) h
        · exact rk_keep (below_new q _) (by decide) (by decide) h
        · exact rk_keep (below_new q _) (by decide) (by decide) h
        · exact rk_keep (below_new q _) (by decide) (by decide) h
        · exact rk_keep (below_new q _) (by decide) (by decide) h
    refine .cons (o := ⟨some 28, _, _, _, _, _⟩) (ds := []) (js := [0, 1, 2, 3, 4, 5, 8, 9]) rfl (by kernel_rfl) (by kernel_rfl) ?_ ?_
    · intro x' q hG hd K hK
      have hbx := HQ2.out.on hG.b
      have k0 := hbx.2.1
      have k1 := hbx.2.2.1
      have k2 := hbx.2.2.2.1
      have k3 := hbx.2.2.2.2.1
      clear hbx
      refine HidG.mk ?_
      simp only [putsA, Act.put, List.setIfInBounds_toArray, List.set_cons_zero, List.set_cons_succ, Nat.reduceAdd, Nat.zero_add] at hK ⊢
      go_simp
      refine hK _ _ hG.to (fun j hj h => ?_) (by exact rfl)
      · simp only [List.mem_cons, List.not_mem_nil, or_false] at hj
        rcases hj with rfl | rfl | rfl | rfl | rfl | rfl | rfl | rfl
        · exact rk_keep (Below.refl _ _) (by decide) (by decide) h
        · exact rk_keep (Below.refl _ _) (by decide) (by decide) h
        · exact rk_keep (Below.refl _ _) (by decide) (by decide) h
        · exact rk_keep (Below.refl _ _) (by decide) (by decide) h
        · exact rk_keep (Below.refl _ _) (by decide) (by decide) h
        · exact rk_keep (Below.refl _ _) (by decide) (by decide) h
        · exact rk_keep (Below.refl _ _) (by decide) (by decide) h
        · exact rk_keep (Below.refl _ _) (by decide) (by decide) h
    refine .cons (o := ⟨some 29, _, _, _, _, _⟩) (ds := [6]) (js := [0, 1, 2, 3, 4, 5, 6, 9]) rfl (by kernel_rfl) (by kernel_rfl) ?_ ?_
    · intro x' q hG hd K hK
      have d6 : x' 6 = .agg #[.int .i64 f2, .int .i64 n2, .string s2, .slice A2 l2 c2] := hd 6 (by simp)
      refine HidG.mk ?_
      simp only [putsA, Act.put, List.setIfInBounds_toArray, List.set_cons_zero, List.set_cons_succ, Nat.reduceAdd, Nat.zero_add] at hK ⊢
      rw [d6] at hK ⊢
      go_simp
      refine hK _ _ (hG.on (below_new q _)) (fun j hj h => ?_) (by exact tys_of (HT2.out.on hG.b) _)
      · simp only [List.mem_cons, List.not_mem_nil, or_false] at hj
        rcases hj with rfl | rfl | rfl | rfl | rfl | rfl | rfl | rfl
        · exact rk_keep (below_new q _) (by decide) (by decide) h
        · exact rk_keep (below_new q _) (by decide) (by decide) h
        · exact rk_keep (below_new q _) (by decide) (by decide) h
        · exact rk_keep (below_new q _) (by decide) (by decide) h
        · exact rk_keep (below_new q _) (by decide) (by decide) h
        · exact rk_keep (below_new q _) (by decide) (by decide) h
        · exact rk_keep (below_new q _) (by decide) (by decide) h
        · exact rk_keep (below_new q _) (by decide) (by decide) h
    refine .cons (o := ⟨some 30, _, _, _, _, _⟩) (ds := [4, 5, 7, 4]) (js := [0, 1, 2, 3, 4, 5, 6, 7, 9]) rfl (by kernel_rfl) (by kernel_rfl) ?_ ?_
    · intro x' q hG hd K hK
      have d4 : TyAt (fun b => V.heap.size ≤ b ∧ x' 9 ≠ .pointer (some ⟨b, 0, none⟩)) q (t.sub [(sA, x)]) (x' 4) := hd 4 (by simp)
      have d5 : StrsAt (fun _ => True) q (x' 5) [sB] := hd 5 (by simp)
      have d7 : TysAt (fun _ => True) q [y] (x' 7) := hd 7 (by simp)
      have hcall := subst_one d4 d5 d7 (ft.sub sA fx (by omega) (by omega) (by omega)) fy (by decide) (by omega) (by omega) (htab.on hG.b)
      refine HidG.mk ?_
      simp only [putsA, Act.put, List.setIfInBounds_toArray, List.set_cons_zero, List.set_cons_succ, Nat.reduceAdd, Nat.zero_add] at hK ⊢
      go_simp
      (with_reducible refine hcall.mono ?_)
      rintro e q1 ⟨u, rfl, ht, hb⟩
      refine hK _ _ (hG.on hb) (fun j hj h => ?_) (by exact ht.mono (fun b hb1 => ⟨Nat.le_trans hG.b.size hb1, fun e => absurd (hG.lt b e) (Nat.not_lt.2 hb1)⟩))
      · simp only [List.mem_cons, List.not_mem_nil, or_false] at hj
        rcases hj with rfl | rfl | rfl | rfl | rfl | rfl | rfl | rfl | rfl
        · exact rk_keep hb (by decide) (by decide) h
        · exact rk_keep hb (by decide) (by decide) h
        · exact rk_keep hb (by decide) (by decide) h
        · exact rk_keep hb (by decide) (by decide) h
        · exact rk_keep hb (by decide) (by decide) h
        · exact rk_keep hb (by decide) (by decide) h
        · exact rk_keep hb (by decide) (by decide) h
        · exact rk_keep hb (by decide) (by decide) h
        · exact rk_keep hb (by decide) (by decide) h
    refine .cons (o := ⟨some 10, _, _, _, _, _⟩) (ds := []) (js := [0, 1, 2, 3, 4, 5, 6, 7, 8]) rfl (by kernel_rfl) (by kernel_rfl) ?_ .nil
    · intro x' q hG hd K hK
      refine HidG.mk ?_
      simp only [putsA, Act.put, List.setIfInBounds_toArray, List.set_cons_zero, List.set_cons_succ, Nat.reduceAdd, Nat.zero_add] at hK ⊢
      go_simp
      refine hK _ _ (by exact hG.new rfl) (fun j hj h => ?_) (by exact ⟨_, rfl, hG.b.size, Box4.new q _ _ _ _ _⟩)
      · simp only [List.mem_cons, List.not_mem_nil, or_false] at hj
        rcases hj with rfl | rfl | rfl | rfl | rfl | rfl | rfl | rfl | rfl
        · exact rk_new (by decide) h
        · exact rk_new (by decide) h
        · exact rk_new (by decide) h
        · exact rk_new (by decide) h
        · exact rk_new (by decide) h
        · exact rk_new (by decide) h
        · exact rk_new (by decide) h
        · exact rk_new (by decide) h
        · exact rk_new (by decide) h
  · intro x' q hG hd K hK
    have d3 : TyAt (fun b => V.heap.size ≤ b ∧ x' 9 ≠ .pointer (some ⟨b, 0, none⟩)) q ((t.sub [(sA, x)]).sub [(sB, y)]) (x' 8) := hd 8 (by omega)
    have d4 : ∃ g, x' 9 = .pointer (some ⟨g, 0, none⟩) ∧ V.heap.size ≤ g ∧ zBox q g := hd 9 (by omega)
    obtain ⟨g, d4, d5, d6⟩ := d4
    obtain ⟨f, m, u, A, l, c, d7⟩ := d3.flat
    rw [d7] at d3
    have d8 := d6
    obtain ⟨e0, e1, e2, e3, e4, e5, e6, e7, e8⟩ := d8
    refine HidG.mk ?_
    simp only [putsA, Act.put, List.setIfInBounds_toArray, List.set_cons_zero, List.set_cons_succ, Nat.reduceAdd, Nat.zero_add] at hK ⊢
    rw [d4, d7] at hK ⊢
    go_simp
    refine hK undef _ ⟨g, f, m, u, A, l, c, d4, Box4.put d6 _ _ _ _, (d3.keep (.box (fun h => h.2 d4) _ _ _ _)).all, below_box hG.b d5 _ _ _ _⟩
  · intro x' q hF
    simp only [putsA, Act.put, List.setIfInBounds_toArray, List.set_cons_zero, List.set_cons_succ, Nat.reduceAdd, Nat.zero_add]
    exact hf (x' 0) (x' 1) (x' 2) (x' 3) (x' 4) (x' 5) (x' 6) (x' 7) (x' 8) (x' 9) q hF
def K7c (v0 v1 v2 : Value) (t x y : Ty) : Nat → KR
  | 0 => .val v0
  | 1 => .strs [sB]
  | 2 => .val v2
  | 3 => .tys [y]
  | 4 => .ty (t.sub [(sB, y)])
  | 5 => .strs [sA]
  | 6 => .val v1
  | 7 => .strs [sB]
  | 8 => .val v2
  | 9 => .tys [y]
  | 10 => .ty (x.sub [(sB, y)])
  | 11 => .tys [(x.sub [(sB, y)])]
  | 12 => .ty ((t.sub [(sB, y)]).sub [(sA, (x.sub [(sB, y)]))])
  | 13 => .box
  | _ => .any
set_option maxRecDepth 100000 in
set_option maxHeartbeats 1000000 in
theorem comp_reg7 {V : World} {t x y : Ty} {f0 n0 : Int} {s0 : ByteArray} {A0 : Option Addr} {l0 c0 g0 : Nat} {f1 n1 : Int} {s1 : ByteArray} {A1 : Option Addr} {l1 c1 g1 : Nat} {f2 n2 : Int} {s2 : ByteArray} {A2 : Option Addr} {l2 c2 g2 : Nat} (HQ0 : Hid (Box4 V g0 (.int .i64 f0) (.int .i64 n0) (.string s0) (.slice A0 l0 c0))) (HT0 : Hid (TyAt (fun _ => True) V t (.agg #[.int .i64 f0, .int .i64 n0, .string s0, .slice A0 l0 c0]))) (HQ1 : Hid (Box4 V g1 (.int .i64 f1) (.int .i64 n1) (.string s1) (.slice A1 l1 c1))) (HT1 : Hid (TyAt (fun _ => True) V x (.agg #[.int .i64 f1, .int .i64 n1, .string s1, .slice A1 l1 c1]))) (HQ2 : Hid (Box4 V g2 (.int .i64 f2) (.int .i64 n2) (.string s2) (.slice A2 l2 c2))) (HT2 : Hid (TyAt (fun _ => True) V y (.agg #[.int .i64 f2, .int .i64 n2, .string s2, .slice A2 l2 c2]))) (ft : Fit 97 t) (fx : Fit 97 x) (fy : Fit 97 y) (htab : TabW V) {Q : Exit → Act → World → Prop} {ds : List Deferred} {r0 r1 r2 r3 r4 r5 r6 r10 r12 r13 r14 r15 r16 r17 r18 r19 r20 r21 r22 r23 r24 r25 r26 r27 r28 r29 r30 r31 r32 r33 r34 r35 r36 r37 r38 r39 r40 r41 r42 r43 r44 r45 r46 r47 r48 r49 : Value}
    (hf : ∀ (x0 x1 x2 x3 x4 x5 x6 x7 x8 x9 x10 x11 x12 x13 : Value) (q : World), VarTy V ((t.sub [(sB, y)]).sub [(sA, (x.sub [(sB, y)]))]) x13 q → Q .normal ⟨#[r0, r1, r2, r3, r4, r5, r6, .pointer (some ⟨g0, 0, none⟩), .pointer (some ⟨g1, 0, none⟩), .pointer (some ⟨g2, 0, none⟩), r10, x13, r12, r13, r14, r15, r16, r17, r18, r19, r20, r21, r22, r23, r24, r25, r26, r27, r28, r29, r30, x0, x1, x2, x3, x4, x5, x6, x7, x8, x9, x10, x11, x12, r44, r45, r46, r47, r48, r49], ds⟩ q) :
    Code.wp Tryd.prog (Code.region 7 #[{ dst := some 31, op := Op.load 25 (Operand.tmp 7), type := 25, pos := "law.go:150", after := #[], guard := none }, { dst := some 32, op := Op.buildSlice 28 1 #[(0, Operand.const (Value.string { data := #[98] }))], type := 28, pos := "law.go:150", after := #[], guard := none }, { dst := some 33, op := Op.load 25 (Operand.tmp 9), type := 25, pos := "law.go:150", after := #[], guard := none }, { dst := some 34, op := Op.buildSlice 23 1 #[(0, Operand.tmp 33)], type := 23, pos := "law.go:150", after := #[{ on := 2, ground := Ground.data }], guard := none }, { dst := some 35, op := Op.call { callee := Callee.value (Operand.func 29), args := #[Operand.tmp 31, Operand.tmp 32, Operand.tmp 34], argTypes := #[25, 28, 23] }, type := 25, pos := "law.go:150", after := #[{ on := 0, ground := Ground.data }, { on := 1, ground := Ground.data }, { on := 3, ground := Ground.data }], guard := none }, { dst := some 36, op := Op.buildSlice 28 1 #[(0, Operand.const (Value.string { data := #[97] }))], type := 28, pos := "law.go:150", after := #[], guard := none }, { dst := some 37, op := Op.load 25 (Operand.tmp 8), type := 25, pos := "law.go:150", after := #[], guard := none }, { dst := some 38, op := Op.buildSlice 28 1 #[(0, Operand.const (Value.string { data := #[98] }))], type := 28, pos := "law.go:150", after := #[], guard := none }, { dst := some 39, op := Op.load 25 (Operand.tmp 9), type := 25, pos := "law.go:150", after := #[], guard := none }, { dst := some 40, op := Op.buildSlice 23 1 #[(0, Operand.tmp 39)], type := 23, pos := "law.go:150", after := #[{ on := 8, ground := Ground.data }], guard := none }, { dst := some 41, op := Op.call { callee := Callee.value (Operand.func 29), args := #[Operand.tmp 37, Operand.tmp 38, Operand.tmp 40], argTypes := #[25, 28, 23] }, type := 25, pos := "law.go:150", after := #[{ on := 6, ground := Ground.data }, { on := 7, ground := Ground.data }, { on := 9, ground := Ground.data }, { on := 4, ground := Ground.chain }], guard := none }, { dst := some 42, op := Op.buildSlice 23 1 #[(0, Operand.tmp 41)], type := 23, pos := "law.go:150", after := #[{ on := 10, ground := Ground.data }], guard := none }, { dst := some 43, op := Op.call { callee := Callee.value (Operand.func 29), args := #[Operand.tmp 35, Operand.tmp 36, Operand.tmp 42], argTypes := #[25, 28, 23] }, type := 25, pos := "law.go:150", after := #[{ on := 4, ground := Ground.data }, { on := 5, ground := Ground.data }, { on := 11, ground := Ground.data }, { on := 10, ground := Ground.chain }], guard := none }, { dst := some 11, op := Op.alloc 25, type := 0, pos := "law.go:150", after := #[], guard := none }, { dst := none, op := Op.store 25 (Operand.tmp 11) (Operand.tmp 43), type := 0, pos := "law.go:150", after := #[{ on := 13, ground := Ground.data }, { on := 12, ground := Ground.data }, { on := 12, ground := Ground.chain }, { on := 0, ground := Ground.phase }, { on := 1, ground := Ground.phase }, { on := 2, ground := Ground.phase }, { on := 3, ground := Ground.phase }, { on := 4, ground := Ground.phase }, { on := 5, ground := Ground.phase }, { on := 6, ground := Ground.phase }, { on := 7, ground := Ground.phase }, { on := 8, ground := Ground.phase }, { on := 9, ground := Ground.phase }, { on := 10, ground := Ground.phase }, { on := 11, ground := Ground.phase }, { on := 12, ground := Ground.phase }, { on := 13, ground := Ground.phase }], guard := none }] true) Q ⟨#[r0, r1, r2, r3, r4, r5, r6, .pointer (some ⟨g0, 0, none⟩), .pointer (some ⟨g1, 0, none⟩), .pointer (some ⟨g2, 0, none⟩), r10, undef, r12, r13, r14, r15, r16, r17, r18, r19, r20, r21, r22, r23, r24, r25, r26, r27, r28, r29, r30, r31, r32, r33, r34, r35, r36, r37, r38, r39, r40, r41, r42, r43, r44, r45, r46, r47, r48, r49], ds⟩ V := by
  refine wp_region_rel (m := 14) (o := ⟨none, _, _, _, _, _⟩) (D := [some 31, some 32, some 33, some 34, some 35, some 36, some 37, some 38, some 39, some 40, some 41, some 42, some 43, some 11, none]) (G := GAll V 13) (R := RK V 13 (K7c (.agg #[.int .i64 f0, .int .i64 n0, .string s0, .slice A0 l0 c0]) (.agg #[.int .i64 f1, .int .i64 n1, .string s1, .slice A1 l1 c1]) (.agg #[.int .i64 f2, .int .i64 n2, .string s2, .slice A2 l2 c2]) t x y)) (FK V 13 ((t.sub [(sB, y)]).sub [(sA, (x.sub [(sB, y)]))])) V (by kernel_rfl) (by kernel_rfl) (by kernel_rfl) (by rfl) (by kernel_rfl) (by kernel_rfl) (by kernel_rfl) ?_ ?_ ?_ ?_
  · intro x' hx'
    have h4 := hx' 13 11 rfl
    exact ⟨(Below.refl _ V).drew, fun b hb => by rw [h4] at hb; cases hb⟩
  · show StepsI _ _ _ _ _ _ _ _ [0, 1, 2, 3, 4, 5, 6, 7, 8, 9, 10, 11, 12, 13]
    refine .cons (o := ⟨some 31, _, _, _, _, _⟩) (ds := []) (js := [1, 2, 3, 5, 6, 7, 8, 9, 10, 11, 12, 13]) rfl (by kernel_rfl) (by kernel_rfl) ?_ ?_
    · intro x' q hG hd K hK
      have hbx := HQ0.out.on hG.b
      have k0 := hbx.2.1
      have k1 := hbx.2.2.1
      have k2 := hbx.2.2.2.1
      have k3 := hbx.2.2.2.2.1
      clear hbx
      refine HidG.mk ?_
      simp only [putsA, Act.put, List.setIfInBounds_toArray, List.set_cons_zero, List.set_cons_succ, Nat.reduceAdd, Nat.zero_add] at hK ⊢
      go_simp
      refine hK _ _ hG.to (fun j hj h => ?_) (by exact rfl)
      · simp only [List.mem_cons, List.not_mem_nil, or_false] at hj
        rcases hj with rfl | rfl | rfl | rfl | rfl | rfl | rfl | rfl | rfl | rfl | rfl | rfl
        · exact rk_keep (Below.refl _ _) (by decide) (by decide) h
        · exact rk_keep (Below.refl _ _) (by decide) (by decide) h
        · exact rk_keep (Below.refl _ _) (by decide) (by decide) h
        · exact rk_keep (Below.refl _ _) (by decide) (by decide) h
        · exact rk_keep (Below.refl _ _) (by decide) (by decide) h
        · exact rk_keep (Below.refl _ _) (by decide) (by decide) h
        · exact rk_keep (Below.refl _ _) (by decide) (by decide) h
        · exact rk_keep (Below.refl _ _) (by decide) (by decide) h
        · exact rk_keep (Below.refl _ _) (by decide) (by decide) h
        · exact rk_keep (Below.refl _ _) (by decide) (by decide) h
        · exact rk_keep (Below.refl _ _) (by decide) (by decide) h
        · exact rk_keep (Below.refl _ _) (by decide) (by decide) h
    refine .cons (o := ⟨some 32, _, _, _, _, _⟩) (ds := []) (js := [0, 2, 3, 5, 6, 7, 8, 9, 10, 11, 12, 13]) rfl (by kernel_rfl) (by kernel_rfl) ?_ ?_
    · intro x' q hG hd K hK
      refine HidG.mk ?_
      simp only [putsA, Act.put, List.setIfInBounds_toArray, List.set_cons_zero, List.set_cons_succ, Nat.reduceAdd, Nat.zero_add] at hK ⊢
      go_simp
      refine hK _ _ (hG.on (below_new q _)) (fun j hj h => ?_) (by exact strs_one q sB _)
      · simp only [List.mem_cons, List.not_mem_nil, or_false] at hj
        rcases hj with rfl | rfl | rfl | rfl | rfl | rfl | rfl | rfl | rfl | rfl | rfl | rfl
        · exact rk_keep (below_new q _) (by decide) (by decide) h
        · exact rk_keep (below_new q _) (by decide) (by decide) h
        · exact rk_keep (below_new q _) (by decide) (by decide) h
        · exact rk_keep (below_new q _) (by decide) (by decide) h
        · exact rk_keep (below_new q _) (by decide) (by decide) h
        · exact rk_keep (below_new q _) (by decide) (by decide) h
        · exact rk_keep (below_new q _) (by decide) (by decide) h
        · exact rk_keep (below_new q _) (by decide) (by decide) h
        · exact rk_keep (below_new q _) (by decide) (by decide) h
        · exact rk_keep (below_new q _) (by decide) (by decide) h
        · exact rk_keep (below_new q _) (by decide) (by decide) h
        · exact rk_keep (below_new q _) (by decide) (by decide) h
    refine .cons (o := ⟨some 33, _, _, _, _, _⟩) (ds := []) (js := [0, 1, 4, 5, 6, 7, 8, 9, 10, 11, 12, 13]) rfl (by kernel_rfl) (by kernel_rfl) ?_ ?_
    · intro x' q hG hd K hK
      have hbx := HQ2.out.on hG.b
      have k0 := hbx.2.1
      have k1 := hbx.2.2.1
      have k2 := hbx.2.2.2.1
      have k3 := hbx.2.2.2.2.1
      clear hbx
      refine HidG.mk ?_
      simp only [putsA, Act.put, List.setIfInBounds_toArray, List.set_cons_zero, List.set_cons_succ, Nat.reduceAdd, Nat.zero_add] at hK ⊢
      go_simp
      refine hK _ _ hG.to (fun j hj h => ?_) (by exact rfl)
      · simp only [List.mem_cons, List.not_mem_nil, or_false] at hj
        rcases hj with rfl | rfl | rfl | rfl | rfl | rfl | rfl | rfl | rfl | rfl | rfl | rfl
        · exact rk_keep (Below.refl _ _) (by decide) (by decide) h
        · exact rk_keep (Below.refl _ _) (by decide) (by decide) h
        · exact rk_keep (Below.refl _ _) (by decide) (by decide) h
        · exact rk_keep (Below.refl _ _) (by decide) (by decide) h
        · exact rk_keep (Below.refl _ _) (by decide) (by decide) h
        · exact rk_keep (Below.refl _ _) (by decide) (by decide) h
        · exact rk_keep (Below.refl _ _) (by decide) (by decide) h
        · exact rk_keep (Below.refl _ _) (by decide) (by decide) h
        · exact rk_keep (Below.refl _ _) (by decide) (by decide) h
        · exact rk_keep (Below.refl _ _) (by decide) (by decide) h
        · exact rk_keep (Below.refl _ _) (by decide) (by decide) h
        · exact rk_keep (Below.refl _ _) (by decide) (by decide) h
    refine .cons (o := ⟨some 34, _, _, _, _, _⟩) (ds := [2]) (js := [0, 1, 2, 5, 6, 7, 8, 9, 10, 11, 12, 13]) rfl (by kernel_rfl) (by kernel_rfl) ?_ ?_
    · intro x' q hG hd K hK
      have d2 : x' 2 = .agg #[.int .i64 f2, .int .i64 n2, .string s2, .slice A2 l2 c2] := hd 2 (by simp)
      refine HidG.mk ?_
      simp only [putsA, Act.put, List.setIfInBounds_toArray, List.set_cons_zero, List.set_cons_succ, Nat.reduceAdd, Nat.zero_add] at hK ⊢
      rw [d2] at hK ⊢
      go_simp
      refine hK _ _ (hG.on (below_new q _)) (fun j hj h => ?_) (by exact tys_of (HT2.out.on hG.b) _)
      · simp only [List.mem_cons, List.not_mem_nil, or_false] at hj
        rcases hj with rfl | rfl | rfl | rfl | rfl | rfl | rfl | rfl | rfl | rfl | rfl | rfl
        · exact rk_keep (below_new q _) (by decide) (by decide) h
        · exact rk_keep (below_new q _) (by decide) (by decide) h
        · exact rk_keep (below_new q _) (by decide) (by decide) h
        · exact rk_keep (below_new q _) (by decide) (by decide) h
        · exact rk_keep (below_new q _) (by decide) (by decide) h
        · exact rk_keep (below_new q _) (by decide) (by decide) h
        · exact rk_keep (below_new q _) (by decide) (by decide) h
        · exact rk_keep (below_new q _) (by decide) (by decide) h
        · exact rk_keep (below_new q _) (by decide) (by decide) h
        · exact rk_keep (below_new q _) (by decide) (by decide) h
        · exact rk_keep (below_new q _) (by decide) (by decide) h
        · exact rk_keep (below_new q _) (by decide) (by decide) h
    refine .cons (o := ⟨some 35, _, _, _, _, _⟩) (ds := [0, 1, 3]) (js := [0, 1, 2, 3, 5, 6, 7, 8, 9, 11, 13]) rfl (by kernel_rfl) (by kernel_rfl) ?_ ?_
    · intro x' q hG hd K hK
      have d0 : x' 0 = .agg #[.int .i64 f0, .int .i64 n0, .string s0, .slice A0 l0 c0] := hd 0 (by simp)
      have d1 : StrsAt (fun _ => True) q (x' 1) [sB] := hd 1 (by simp)
      have d3 : TysAt (fun _ => True) q [y] (x' 3) := hd 3 (by simp)
      have hcall := subst_one (HT0.out.on hG.b) d1 d3 ft fy (by decide) (by omega) (by omega) (htab.on hG.b)
      refine HidG.mk ?_
      simp only [putsA, Act.put, List.setIfInBounds_toArray, List.set_cons_zero, List.set_cons_succ, Nat.reduceAdd, Nat.zero_add] at hK ⊢
      rw [d0] at hK ⊢
      go_simp
      (with_reducible refine hcall.mono ?_)
      rintro e q1 ⟨u, rfl, ht, hb⟩
      refine hK _ _ (hG.on hb) (fun j hj h => ?_) (by exact ht.mono (fun b hb1 => ⟨Nat.le_trans hG.b.size hb1, fun e => absurd (hG.lt b e) (Nat.not_lt.2 hb1)⟩))
      · simp only [List.mem_cons, List.not_mem_nil, or_false] at hj
        rcases hj with rfl | rfl | rfl | rfl | rfl | rfl | rfl | rfl | rfl | rfl | rfl
        · exact rk_keep hb (by decide) (by decide) h
        · exact rk_keep hb (by decide) (by decide) h
        · exact rk_keep hb (by decide) (by decide) h
        · exact rk_keep hb (by decide) (by decide) h
        · exact rk_keep hb (by decide) (by decide) h
        · exact rk_keep hb (by decide) (by decide) h
        · exact rk_keep hb (by decide) (by decide) h
        · exact rk_keep hb (by decide) (by decide) h
        · exact rk_keep hb (by decide) (by decide) h
        · exact rk_keep hb (by decide) (by decide) h
        · exact rk_keep hb (by decide) (by decide) h
    refine .cons (o := ⟨some 36, _, _, _, _, _⟩) (ds := []) (js := [0, 1, 2, 3, 4, 6, 7, 8, 9, 10, 11, 13]) rfl (by kernel_rfl) (by kernel_rfl) ?_ ?_
    · intro x' q hG hd K hK
      refine HidG.mk ?_
      simp only [putsA, Act.put, List.setIfInBounds_toArray, List.set_cons_zero, List.set_cons_succ, Nat.reduceAdd, Nat.zero_add] at hK ⊢
      go_simp
      refine hK _ _ (hG.on (below_new q _)) (fun j hj h => ?_) (by exact strs_one q sA _)
      · simp only [List.mem_cons, List.not_mem_nil, or_false] at hj
        rcases hj with rfl | rfl | rfl | rfl | rfl | rfl | rfl | rfl | rfl | rfl | rfl | rfl
        · exact rk_keep (below_new q _) (by decide) (by decide) h
        · exact rk_keep (below_new q _) (by decide) (by decide) h
        · exact rk_keep (below_new q _) (by decide) (by decide) h
        · exact rk_keep (below_new q _) (by decide) (by decide) h
        · exact rk_keep (below_new q _) (by decide) (by decide) h
        · exact rk_keep (below_new q _) (by decide) (by decide) h
        · exact rk_keep (below_new q _) (by decide) (by decide) h
        · exact rk_keep (below_new q _) (by decide) (by decide) h
        · exact rk_keep (below_new q _) (by decide) (by decide) h
        · exact rk_keep (below_new q _) (by decide) (by decide) h
        · exact rk_keep (below_new q _) (by decide) (by decide) h
        · exact rk_keep (below_new q _) (by decide) (by decide) h
    refine .cons (o := ⟨some 37, _, _, _, _, _⟩) (ds := []) (js := [0, 1, 2, 3, 4, 5, 7, 8, 9, 11, 12, 13]) rfl (by kernel_rfl) (by kernel_rfl) ?_ ?_
    · intro x' q hG hd K hK
      have hbx := HQ1.out.on hG.b
      have k0 := hbx.2.1
      have k1 := hbx.2.2.1
      have k2 := hbx.2.2.2.1
      have k3 := hbx.2.2.2.2.1
      clear hbx
      refine HidG.mk ?_
      simp only [putsA, Act.put, List.setIfInBounds_toArray, List.set_cons_zero, List.set_cons_succ, Nat.reduceAdd, Nat.zero_add] at hK ⊢
      go_simp
      refine hK _ _ hG.to (fun j hj h => ?_) (by exact rfl)
      · simp only [List.mem_cons, List.not_mem_nil, or_false] at hj
        rcases hj with rfl | rfl | rfl | rfl | rfl | rfl | rfl | rfl | rfl | rfl | rfl | rfl
        · exact rk_keep (Below.refl _ _) (by decide) (by decide) h
        · exact rk_keep (Below.refl _ _) (by decide) (by decide) h
        · exact rk_keep (Below.refl _ _) (by decide) (by decide) h
        · exact rk_keep (Below.refl _ _) (by decide) (by decide) h
        · exact rk_keep (Below.refl _ _) (by decide) (by decide) h
        · exact rk_keep (Below.refl _ _) (by decide) (by decide) h
        · exact rk_keep (Below.refl _ _) (by decide) (by decide) h
        · exact rk_keep (Below.refl _ _) (by decide) (by decide) h
        · exact rk_keep (Below.refl _ _) (by decide) (by decide) h
        · exact rk_keep (Below.refl _ _) (by decide) (by decide) h
        · exact rk_keep (Below.refl _ _) (by decide) (by decide) h
        · exact rk_keep (Below.refl _ _) (by decide) (by decide) h
    refine .cons (o := ⟨some 38, _, _, _, _, _⟩) (ds := []) (js := [0, 1, 2, 3, 4, 5, 6, 8, 9, 11, 12, 13]) rfl (by kernel_rfl) (by kernel_rfl) ?_ ?_
    · intro x' q hG hd K hK
      refine HidG.mk ?_
      simp only [putsA, Act.put, List.setIfInBounds_toArray, List.set_cons_zero, List.set_cons_succ, Nat.reduceAdd, Nat.zero_add] at hK ⊢
      go_simp
      refine hK _ _ (hG.on (below_new q _)) (fun j hj h => ?_) (by exact strs_one q sB _)
      · simp only [List.mem_cons, List.not_mem_nil, or_false] at hj
        rcases hj with rfl | rfl | rfl | rfl | rfl | rfl | rfl | rfl | rfl | rfl | rfl | rfl
        · exact rk_keep (below_new q _) (by decide) (by decide) h
        · exact rk_keep (below_new q _) (by decide) (by decide) h
        · exact rk_keep (below_new q _) (by decide) (by decide) h
        · exact rk_keep (below_new q _) (by decide) (by decide) h
        · exact rk_keep (below_new q _) (by decide) (by decide) h
        · exact rk_keep (below_new q _) (by decide) (by decide) h
        · exact rk_keep (below_new q _) (by decide) (by decide) h
        · exact rk_keep (below_new q _) (by decide) (by decide) h
        · exact rk_keep (below_new q _) (by decide) (by decide) h
        · exact rk_keep (below_new q _) (by decide) (by decide) h
        · exact rk_keep (below_new q _) (by decide) (by decide) h
        · exact rk_keep (below_new q _) (by decide) (by decide) h
    refine .cons (o := ⟨some 39, _, _, _, _, _⟩) (ds := []) (js := [0, 1, 2, 3, 4, 5, 6, 7, 10, 11, 12, 13]) rfl (by kernel_rfl) (by kernel_rfl) ?_ ?_
    · intro x' q hG hd K hK
      have hbx := HQ2.out.on hG.b
      have k0 := hbx.2.1
      have k1 := hbx.2.2.1
      have k2 := hbx.2.2.2.1
      have k3 := hbx.2.2.2.2.1
      clear hbx
      refine HidG.mk ?_
      simp only [putsA, Act.put, List.setIfInBounds_toArray, List.set_cons_zero, List.set_cons_succ, Nat.reduceAdd, Nat.zero_add] at hK ⊢
      go_simp
      refine hK _ _ hG.to (fun j hj h => ?_) (by exact rfl)
      · simp only [List.mem_cons, List.not_mem_nil, or_false] at hj
        rcases hj with rfl | rfl | rfl | rfl | rfl | rfl | rfl | rfl | rfl | rfl | rfl | rfl
        · exact rk_keep (Below.refl _ _) (by decide) (by decide) h
        · exact rk_keep (Below.refl _ _) (by decide) (by decide) h
        · exact rk_keep (Below.refl _ _) (by decide) (by decide) h
        · exact rk_keep (Below.refl _ _) (by decide) (by decide) h
        · exact rk_keep (Below.refl _ _) (by decide) (by decide) h
        · exact rk_keep (Below.refl _ _) (by decide) (by decide) h
        · exact rk_keep (Below.refl _ _) (by decide) (by decide) h
        · exact rk_keep (Below.refl _ _) (by decide) (by decide) h
        · exact rk_keep (Below.refl _ _) (by decide) (by decide) h
        · exact rk_keep (Below.refl _ _) (by decide) (by decide) h
        · exact rk_keep (Below.refl _ _) (by decide) (by decide) h
        · exact rk_keep (Below.refl _ _) (by decide) (by decide) h
    refine .cons (o := ⟨some 40, _, _, _, _, _⟩) (ds := [8]) (js := [0, 1, 2, 3, 4, 5, 6, 7, 8, 11, 12, 13]) rfl (by kernel_rfl) (by kernel_rfl) ?_ ?_
    · intro x' q hG hd K hK
      have d8 : x' 8 = .agg #[.int .i64 f2, .int .i64 n2, .string s2, .slice A2 l2 c2] := hd 8 (by simp)
      refine HidG.mk ?_
      simp only [putsA, Act.put, List.setIfInBounds_toArray, List.set_cons_zero, List.set_cons_succ, Nat.reduceAdd, Nat.zero_add] at hK ⊢
      rw [d8] at hK ⊢
      go_simp
      refine hK _ _ (hG.on (below_new q _)) (fun j hj h => ?_) (by exact tys_of (HT2.out.on hG.b) _)
      · simp only [List.mem_cons, List.not_mem_nil, or_false] at hj
        rcases hj with rfl | rfl | rfl | rfl | rfl | rfl | rfl | rfl | rfl | rfl | rfl | rfl
        · exact rk_keep (below_new q _) (by decide) (by decide) h
        · exact rk_keep (below_new q _) (by decide) (by decide) h
        · exact rk_keep (below_new q _) (by decide) (by decide) h
        · exact rk_keep (below_new q _) (by decide) (by decide) h
        · exact rk_keep (below_new q _) (by decide) (by decide) h
        · exact rk_keep (below_new q _) (by decide) (by decide) h
        · exact rk_keep (below_new q _) (by decide) (by decide) h
        · exact rk_keep (below_new q _) (by decide) (by decide) h
        · exact rk_keep (below_new q _) (by decide) (by decide) h
        · exact rk_keep (below_new q _) (by decide) (by decide) h
        · exact rk_keep (below_new q _) (by decide) (by decide) h
        · exact rk_keep (below_new q _) (by decide) (by decide) h
    refine .cons (o := ⟨some 41, _, _, _, _, _⟩) (ds := [6, 7, 9, 4]) (js := [0, 1, 2, 3, 4, 5, 6, 7, 8, 9, 13]) rfl (by kernel_rfl) (by kernel_rfl) ?_ ?_
    · intro x' q hG hd K hK
      have d6 : x' 6 = .agg #[.int .i64 f1, .int .i64 n1, .string s1, .slice A1 l1 c1] := hd 6 (by simp)
      have d7 : StrsAt (fun _ => True) q (x' 7) [sB] := hd 7 (by simp)
      have d9 : TysAt (fun _ => True) q [y] (x' 9) := hd 9 (by simp)
      have hcall := subst_one (HT1.out.on hG.b) d7 d9 fx fy (by decide) (by omega) (by omega) (htab.on hG.b)
      refine HidG.mk ?_
      simp only [putsA, Act.put, List.setIfInBounds_toArray, List.set_cons_zero, List.set_cons_succ, Nat.reduceAdd, Nat.zero_add] at hK ⊢
      rw [d6] at hK ⊢
      go_simp
      (with_reducible refine hcall.mono ?_)
      rintro e q1 ⟨u, rfl, ht, hb⟩
      refine hK _ _ (hG.on hb) (fun j hj h => ?_) (by exact ht.mono (fun b hb1 => ⟨Nat.le_trans hG.b.size hb1, fun e => absurd (hG.lt b e) (Nat.not_lt.2 hb1)⟩))
      · simp only [List.mem_cons, List.not_mem_nil, or_false] at hj
        rcases hj with rfl | rfl | rfl | rfl | rfl | rfl | rfl | rfl | rfl | rfl | rfl
        · exact rk_keep hb (by decide) (by decide) h
        · exact rk_keep hb (by decide) (by decide) h
        · exact rk_keep hb (by decide) (by decide) h
        · exact rk_keep hb (by decide) (by decide) h
        · exact rk_keep hb (by decide) (by decide) h
        · exact rk_keep hb (by decide) (by decide) h
        · exact rk_keep hb (by decide) (by decide) h
        · exact rk_keep hb (by decide) (by decide) h
        · exact rk_keep hb (by decide) (by decide) h
        · exact rk_keep hb (by decide) (by decide) h
        · exact rk_keep hb (by decide) (by decide) h
    refine .cons (o := ⟨some 42, _, _, _, _, _⟩) (ds := [10]) (js := [0, 1, 2, 3, 4, 5, 6, 7, 8, 9, 10, 13]) rfl (by kernel_rfl) (by kernel_rfl) ?_ ?_
    · intro x' q hG hd K hK
      have d10 : TyAt (fun b => V.heap.size ≤ b ∧ x' 13 ≠ .pointer (some ⟨b, 0, none⟩)) q (x.sub [(sB, y)]) (x' 10) := hd 10 (by simp)
      obtain ⟨fz, mz, uz, Az, lz, cz, d7z⟩ := d10.flat
      rw [d7z] at d10
      refine HidG.mk ?_
      simp only [putsA, Act.put, List.setIfInBounds_toArray, List.set_cons_zero, List.set_cons_succ, Nat.reduceAdd, Nat.zero_add] at hK ⊢
      rw [d7z] at hK ⊢
      go_simp
      refine hK _ _ (hG.on (below_new q _)) (fun j hj h => ?_) (by exact tys_of d10 _)
      · simp only [List.mem_cons, List.not_mem_nil, or_false] at hj
        rcases hj with rfl | rfl | rfl | rfl | rfl | rfl | rfl | rfl | rfl | rfl | rfl | rfl
        · exact rk_keep (below_new q _) (by decide) (by decide) h
        · exact rk_keep (below_new q _) (by decide) (by decide) h
        · exact rk_keep (below_new q _) (by decide) (by decide) h
        · exact rk_keep (below_new q _) (by decide) (by decide) h
        · exact rk_keep (below_new q _) (by decide) (by decide) h
        · exact rk_keep (below_new q _) (by decide) (by decide) h
        · exact rk_keep (below_new q _) (by decide) (by decide) h
        · exact rk_keep (below_new q _) (by decide) (by decide) h
        · exact rk_keep (below_new q _) (by decide) (by decide) h
        · exact rk_keep (below_new q _) (by decide) (by decide) h
        · exact rk_keep (below_new q _) (by decide) (by decide) h
        · exact rk_keep (below_new q _) (by decide) (by decide) h
    refine .cons (o := ⟨some 43, _, _, _, _, _⟩) (ds := [4, 5, 11, 10]) (js := [0, 1, 2, 3, 4, 5, 6, 7, 8, 9, 10, 11, 13]) rfl (by kernel_rfl) (by kernel_rfl) ?_ ?_
    · intro x' q hG hd K hK
      have d4 : TyAt (fun b => V.heap.size ≤ b ∧ x' 13 ≠ .pointer (some ⟨b, 0, none⟩)) q (t.sub [(sB, y)]) (x' 4) := hd 4 (by simp)
      have d5 : StrsAt (fun _ => True) q (x' 5) [sA] := hd 5 (by simp)
      have d11 : TysAt (fun _ => True) q [(x.sub [(sB, y)])] (x' 11) := hd 11 (by simp)
      have hcall := subst_one d4 d5 d11 (ft.sub sB fy (by omega) (by omega) (by omega)) (fx.sub sB fy (by omega) (by omega) (by omega)) (by decide) (by omega) (by omega) (htab.on hG.b)
      refine HidG.mk ?_
      simp only [putsA, Act.put, List.setIfInBounds_toArray, List.set_cons_zero, List.set_cons_succ, Nat.reduceAdd, Nat.zero_add] at hK ⊢
      go_simp
      (with_reducible refine hcall.mono ?_)
      rintro e q1 ⟨u, rfl, ht, hb⟩
      refine hK _ _ (hG.on hb) (fun j hj h => ?_) (by exact ht.mono (fun b hb1 => ⟨Nat.le_trans hG.b.size hb1, fun e => absurd (hG.lt b e) (Nat.not_lt.2 hb1)⟩))
      · simp only [List.mem_cons, List.not_mem_nil, or_false] at hj
        rcases hj with rfl | rfl | rfl | rfl | rfl | rfl | rfl | rfl | rfl | rfl | rfl | rfl | rfl
        · exact rk_keep hb (by decide) (by decide) h
        · exact rk_keep hb (by decide) (by decide) h
        · exact rk_keep hb (by decide) (by decide) h
        · exact rk_keep hb (by decide) (by decide) h
        · exact rk_keep hb (by decide) (by decide) h
        · exact rk_keep hb (by decide) (by decide) h
        · exact rk_keep hb (by decide) (by decide) h
        · exact rk_keep hb (by decide) (by decide) h
        · exact rk_keep hb (by decide) (by decide) h
        · exact rk_keep hb (by decide) (by decide) h
        · exact rk_keep hb (by decide) (by decide) h
        · exact rk_keep hb (by decide) (by decide) h
        · exact rk_keep hb (by decide) (by decide) h
    refine .cons (o := ⟨some 11, _, _, _, _, _⟩) (ds := []) (js := [0, 1, 2, 3, 4, 5, 6, 7, 8, 9, 10, 11, 12]) rfl (by kernel_rfl) (by kernel_rfl) ?_ .nil
    · intro x' q hG hd K hK
      refine HidG.mk ?_
      simp only [putsA, Act.put, List.setIfInBounds_toArray, List.set_cons_zero, List.set_cons_succ, Nat.reduceAdd, Nat.zero_add] at hK ⊢
      go_simp
      refine hK _ _ (by exact hG.new rfl) (fun j hj h => ?_) (by exact ⟨_, rfl, hG.b.size, Box4.new q _ _ _ _ _⟩)
      · simp only [List.mem_cons, List.not_mem_nil, or_false] at hj
        rcases hj with rfl | rfl | rfl | rfl | rfl | rfl | rfl | rfl | rfl | rfl | rfl | rfl | rfl
        · exact rk_new (by decide) h
        · exact rk_new (by decide) h
        · exact rk_new (by decide) h
        · exact rk_new (by decide) h
        · exact rk_new (by decide) h
        · exact rk_new (by decide) h
        · exact rk_new (by decide) h
        · exact rk_new (by decide) h
        · exact rk_new (by decide) h
        · exact rk_new (by decide) h
        · exact rk_new (by decide) h
        · exact rk_new (by decide) h
        · exact rk_new (by decide) h
  · intro x' q hG hd K hK
    have d3 : TyAt (fun b => V.heap.size ≤ b ∧ x' 13 ≠ .pointer (some ⟨b, 0, none⟩)) q ((t.sub [(sB, y)]).sub [(sA, (x.sub [(sB, y)]))]) (x' 12) := hd 12 (by omega)
    have d4 : ∃ g, x' 13 = .pointer (some ⟨g, 0, none⟩) ∧ V.heap.size ≤ g ∧ zBox q g := hd 13 (by omega)
    obtain ⟨g, d4, d5, d6⟩ := d4
    obtain ⟨f, m, u, A, l, c, d7⟩ := d3.flat
    rw [d7] at d3
    have d8 := d6
    obtain ⟨e0, e1, e2, e3, e4, e5, e6, e7, e8⟩ := d8
    refine HidG.mk ?_
    simp only [putsA, Act.put, List.setIfInBounds_toArray, List.set_cons_zero, List.set_cons_succ, Nat.reduceAdd, Nat.zero_add] at hK ⊢
    rw [d4, d7] at hK ⊢
    go_simp
    refine hK undef _ ⟨g, f, m, u, A, l, c, d4, Box4.put d6 _ _ _ _, (d3.keep (.box (fun h => h.2 d4) _ _ _ _)).all, below_box hG.b d5 _ _ _ _⟩
  · intro x' q hF
    simp only [putsA, Act.put, List.setIfInBounds_toArray, List.set_cons_zero, List.set_cons_succ, Nat.reduceAdd, Nat.zero_add]
    exact hf (x' 0) (x' 1) (x' 2) (x' 3) (x' 4) (x' 5) (x' 6) (x' 7) (x' 8) (x' 9) (x' 10) (x' 11) (x' 12) (x' 13) q hF
end Go.Proofs.YtbdfjboojokgdaaDoor
