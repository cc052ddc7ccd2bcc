/- unify (chapter 3's solver): its regions that draw their order. Conditions: those that each theorem names. -/
import Derived.Test.YtomhojpoaicioaaUndo
namespace Go.Proofs.Ytomhojpoaicioaa
open Go.RowKit

def F_uni4 (P : Nat → Prop) (V : World) (t t' : Tz) (x : Nat → Value) (q : World) : Prop := ∃ g g' A c B d, x 12 = ptrZ g ∧ x 13 = ptrZ g' ∧ Boxed2 P V t t' g g' A c B d q
def K_uni4 (tb sb : Nat) (t t' : Tz) (Fa Ga Fb Gb : Int) (Ma ca Mb cb : Nat) (Aa Ab : Option Addr) : Nat → KZ
  | 0 => .val (.pointer (some ⟨tb, 0, none⟩))
  | 1 => .val (.pointer (some ⟨tb, 0, none⟩))
  | 2 => .val (.pointer (some ⟨tb, 0, none⟩))
  | 3 => .val (.pointer (some ⟨sb, 0, none⟩))
  | 4 => .val (.agg #[.int .i64 Fa, .int .i64 Ga, .slice Aa Ma ca])
  | 5 => .at t
  | 6 => .val (.pointer (some ⟨tb, 0, none⟩))
  | 7 => .val (.pointer (some ⟨tb, 0, none⟩))
  | 8 => .val (.pointer (some ⟨tb, 0, none⟩))
  | 9 => .val (.pointer (some ⟨sb, 0, none⟩))
  | 10 => .val (.agg #[.int .i64 Fb, .int .i64 Gb, .slice Ab Mb cb])
  | 11 => .at t'
  | 12 => .obox
  | 13 => .obox
  | 14 => .held 12 t
  | _ => .val undef
set_option maxRecDepth 100000 in
set_option maxHeartbeats 1000000 in
theorem uni4 {V : World} {P : Nat → Prop} {tb sb ga gb : Nat} {t t' : Tz} {Fa Ga Fb Gb : Int} {Ma ca Mb cb : Nat} {Aa Ab : Option Addr} (hP : ∀ b, P b → b < V.heap.size) (H0 : Hid (∀ q, Below V.heap.size V q → q.cell? ⟨tb, 0, none⟩ = some (.pointer (some ⟨sb, 0, none⟩)))) (HA : Hid (∀ q, Below V.heap.size V q → q.cell? ⟨ga, 0, none⟩ = some (.int .i64 Fa) ∧ q.cell? ⟨ga, 1, none⟩ = some (.int .i64 Ga) ∧ q.cell? ⟨ga, 2, none⟩ = some (.slice Aa Ma ca))) (HB : Hid (∀ q, Below V.heap.size V q → q.cell? ⟨gb, 0, none⟩ = some (.int .i64 Fb) ∧ q.cell? ⟨gb, 1, none⟩ = some (.int .i64 Gb) ∧ q.cell? ⟨gb, 2, none⟩ = some (.slice Ab Mb cb))) (HX : Hid (∀ q, Below V.heap.size V q → Calls Try.prog 47 #[.pointer (some ⟨sb, 0, none⟩), .agg #[.int .i64 Fa, .int .i64 Ga, .slice Aa Ma ca]] q (TermZ P q t))) (HY : Hid (∀ q, Below V.heap.size V q → Calls Try.prog 47 #[.pointer (some ⟨sb, 0, none⟩), .agg #[.int .i64 Fb, .int .i64 Gb, .slice Ab Mb cb]] q (TermZ P q t'))) {Q : Exit → Act → World → Prop} {ds : List Deferred} {r1 r2 r3 r6 r9 r10 r11 r12 r13 r14 r15 r16 r17 r18 r19 r20 r21 r22 r23 r24 r25 r26 r27 r28 r29 r30 r31 r32 r33 r34 r35 r36 r37 r38 r39 r40 r41 r42 r43 r44 r45 r46 r47 r48 r49 r50 r51 r52 r53 r54 r55 r56 r57 r58 r59 r60 r61 r62 r63 r64 r65 r66 r67 r68 r69 r70 r71 r72 r73 r74 r75 r76 r77 r78 r79 r80 r81 r82 r83 r84 r85 r86 r87 r88 r89 r90 r91 r92 r93 r94 r95 r96 r97 r98 r99 r100 r101 r102 r103 r104 r105 r106 r107 r108 r109 r110 r111 r112 r113 r114 r115 r116 r117 r118 r119 r120 : Value}
    (hf : ∀ (x0 x1 x2 x3 x4 x5 x6 x7 x8 x9 x10 x11 : Value) (g g' : Nat) (A : Option Addr) (c : Nat) (B : Option Addr) (d : Nat) (q : World), Boxed2 P V t t' g g' A c B d q → Q .normal ⟨#[.pointer (some ⟨tb, 0, none⟩), r1, r2, r3, .pointer (some ⟨ga, 0, none⟩), .pointer (some ⟨gb, 0, none⟩), r6, ptrZ g, ptrZ g', r9, r10, r11, r12, r13, r14, r15, r16, r17, r18, r19, r20, r21, r22, r23, r24, r25, r26, r27, r28, r29, r30, r31, r32, r33, r34, r35, r36, r37, x0, x1, x2, x3, x4, x5, x6, x7, x8, x9, x10, x11, r50, r51, r52, r53, r54, r55, r56, r57, r58, r59, r60, r61, r62, r63, r64, r65, r66, r67, r68, r69, r70, r71, r72, r73, r74, r75, r76, r77, r78, r79, r80, r81, r82, r83, r84, r85, r86, r87, r88, r89, r90, r91, r92, r93, r94, r95, r96, r97, r98, r99, r100, r101, r102, r103, r104, r105, r106, r107, r108, r109, r110, r111, r112, r113, r114, r115, r116, r117, r118, r119, r120], ds⟩ q) :
    Code.wp Try.prog (Code.region 4 #[{ dst := some 38, op := Op.move (Operand.tmp 0), type := 101, pos := "trial.go:24", after := #[], guard := none }, { dst := some 39, op := Op.nilCheck (Operand.tmp 38), type := 0, pos := "trial.go:24", after := #[{ on := 0, ground := Ground.data }], guard := none }, { dst := some 40, op := Op.fieldAddr 93 (Operand.tmp 39) 0, type := 0, pos := "trial.go:24", after := #[{ on := 1, ground := Ground.data }], guard := none }, { dst := some 41, op := Op.load 45 (Operand.tmp 40), type := 45, pos := "trial.go:24", after := #[{ on := 2, ground := Ground.data }], guard := none }, { dst := some 42, op := Op.load 49 (Operand.tmp 4), type := 49, pos := "trial.go:24", after := #[], guard := none }, { dst := some 43, op := Op.call { callee := Callee.value (Operand.func 47), args := #[Operand.tmp 41, Operand.tmp 42], argTypes := #[45, 49] }, type := 49, pos := "trial.go:24", after := #[{ on := 3, ground := Ground.data }, { on := 4, ground := Ground.data }], guard := none }, { dst := some 44, op := Op.move (Operand.tmp 0), type := 101, pos := "trial.go:24", after := #[], guard := none }, { dst := some 45, op := Op.nilCheck (Operand.tmp 44), type := 0, pos := "trial.go:24", after := #[{ on := 6, ground := Ground.data }], guard := none }, { dst := some 46, op := Op.fieldAddr 93 (Operand.tmp 45) 0, type := 0, pos := "trial.go:24", after := #[{ on := 7, ground := Ground.data }], guard := none }, { dst := some 47, op := Op.load 45 (Operand.tmp 46), type := 45, pos := "trial.go:24", after := #[{ on := 8, ground := Ground.data }], guard := none }, { dst := some 48, op := Op.load 49 (Operand.tmp 5), type := 49, pos := "trial.go:24", after := #[], guard := none }, { dst := some 49, op := Op.call { callee := Callee.value (Operand.func 47), args := #[Operand.tmp 47, Operand.tmp 48], argTypes := #[45, 49] }, type := 49, pos := "trial.go:24", after := #[{ on := 9, ground := Ground.data }, { on := 10, ground := Ground.data }, { on := 5, ground := Ground.chain }], guard := none }, { dst := some 7, op := Op.alloc 49, type := 0, pos := "trial.go:24", after := #[], guard := none }, { dst := some 8, op := Op.alloc 49, type := 0, pos := "trial.go:24", after := #[], guard := none }, { dst := none, op := Op.store 49 (Operand.tmp 7) (Operand.tmp 43), type := 0, pos := "trial.go:24", after := #[{ on := 12, ground := Ground.data }, { on := 5, ground := Ground.data }, { on := 11, ground := Ground.chain }, { on := 0, ground := Ground.phase }, { on := 1, ground := Ground.phase }, { on := 2, ground := Ground.phase }, { on := 3, ground := Ground.phase }, { on := 4, ground := Ground.phase }, { on := 5, ground := Ground.phase }, { on := 6, ground := Ground.textOnly Departure.lateStores }, { on := 7, ground := Ground.textOnly Departure.lateStores }, { on := 8, ground := Ground.textOnly Departure.lateStores }, { on := 9, ground := Ground.textOnly Departure.lateStores }, { on := 10, ground := Ground.textOnly Departure.lateStores }, { on := 11, ground := Ground.textOnly Departure.lateStoresUnsure }, { on := 12, ground := Ground.phase }, { on := 13, ground := Ground.phase }], guard := none }, { dst := none, op := Op.store 49 (Operand.tmp 8) (Operand.tmp 49), type := 0, pos := "trial.go:24", after := #[{ on := 13, ground := Ground.data }, { on := 11, ground := Ground.data }, { on := 14, ground := Ground.chain }, { on := 0, ground := Ground.phase }, { on := 1, ground := Ground.phase }, { on := 2, ground := Ground.phase }, { on := 3, ground := Ground.phase }, { on := 4, ground := Ground.phase }, { on := 5, ground := Ground.phase }, { on := 6, ground := Ground.phase }, { on := 7, ground := Ground.phase }, { on := 8, ground := Ground.phase }, { on := 9, ground := Ground.phase }, { on := 10, ground := Ground.phase }, { on := 11, ground := Ground.phase }, { on := 12, ground := Ground.phase }, { on := 13, ground := Ground.phase }, { on := 14, ground := Ground.phase }], guard := none }] true) Q ⟨#[.pointer (some ⟨tb, 0, none⟩), r1, r2, r3, .pointer (some ⟨ga, 0, none⟩), .pointer (some ⟨gb, 0, none⟩), r6, undef, undef, r9, r10, r11, r12, r13, r14, r15, r16, r17, r18, r19, r20, r21, r22, r23, r24, r25, r26, r27, r28, r29, r30, r31, r32, r33, r34, r35, r36, r37, r38, r39, r40, r41, r42, r43, r44, r45, r46, r47, r48, r49, r50, r51, r52, r53, r54, r55, r56, r57, r58, r59, r60, r61, r62, r63, r64, r65, r66, r67, r68, r69, r70, r71, r72, r73, r74, r75, r76, r77, r78, r79, r80, r81, r82, r83, r84, r85, r86, r87, r88, r89, r90, r91, r92, r93, r94, r95, r96, r97, r98, r99, r100, r101, r102, r103, r104, r105, r106, r107, r108, r109, r110, r111, r112, r113, r114, r115, r116, r117, r118, r119, r120], ds⟩ V := by
  refine wp_region_rel (m := 15) (o := ⟨none, _, _, _, _, _⟩) (D := [some 38, some 39, some 40, some 41, some 42, some 43, some 44, some 45, some 46, some 47, some 48, some 49, some 7, some 8, none, none]) (G := GZ V [12, 13]) (R := RZ P V [12, 13] (K_uni4 tb sb t t' Fa Ga Fb Gb Ma ca Mb cb Aa Ab)) (F_uni4 P V t t') V (by kernel_rfl) (by kernel_rfl) (by kernel_rfl) (by rfl) (by kernel_rfl) (by kernel_rfl) (by kernel_rfl) ?_ ?_ ?_ ?_
  · intro x' hx'
    refine ⟨(Below.refl _ _).drew, fun k hk b e => ?_⟩
    simp only [List.mem_cons, List.not_mem_nil, or_false] at hk
    rcases hk with rfl | rfl
    · have e' : undef = ptrZ b := (hx' 12 (some 7) rfl).symm.trans e
      cases e'
    · have e' : undef = ptrZ b := (hx' 13 (some 8) rfl).symm.trans e
      cases e'
  · show StepsI _ _ _ _ _ _ _ _ [0, 1, 2, 3, 4, 5, 6, 7, 8, 9, 10, 11, 12, 13, 14]
    refine .cons (o := ⟨some 38, _, _, _, _, _⟩) (ds := []) (js := [2, 3, 4, 5, 6, 7, 8, 9, 10, 11, 12, 13]) (ws := [0, 1, 2, 3, 5, 11, 14, 15]) rfl (by kernel_rfl) (by kernel_rfl) (by kernel_rfl) ?_ ?_
    · intro x' q hG hd hin K hK
      have HIN := Lib.hid hin
      clear hin
      refine HidG.mk ?_
      simp only [putsA, Act.put, List.setIfInBounds_toArray, List.set_cons_zero, List.set_cons_succ, Nat.reduceAdd, Nat.zero_add] at hK ⊢
      go_simp
      refine hK _ _ (by exact hG.keep (Below.refl _ _) (by decide)) (fun j hj h => ?_) (by exact rfl)
      · simp only [List.mem_cons, List.not_mem_nil, or_false] at hj
        rcases hj with rfl | rfl | rfl | rfl | rfl | rfl | rfl | rfl | rfl | rfl | rfl | rfl
        · exact rz_keep (Below.refl _ _) (by decide) (by decide) h
        · exact rz_keep (Below.refl _ _) (by decide) (by decide) h
        · exact rz_keep (Below.refl _ _) (by decide) (by decide) h
        · exact rz_keep (Below.refl _ _) (by decide) (by decide) h
        · exact rz_keep (Below.refl _ _) (by decide) (by decide) h
        · exact rz_keep (Below.refl _ _) (by decide) (by decide) h
        · exact rz_keep (Below.refl _ _) (by decide) (by decide) h
        · exact rz_keep (Below.refl _ _) (by decide) (by decide) h
        · exact rz_keep (Below.refl _ _) (by decide) (by decide) h
        · exact rz_keep (Below.refl _ _) (by decide) (by decide) h
        · exact rz_keep (Below.refl _ _) (by decide) (by decide) h
        · exact rz_keep (Below.refl _ _) (by decide) (by decide) h
    refine .cons (o := ⟨some 39, _, _, _, _, _⟩) (ds := [0]) (js := [0, 3, 4, 5, 6, 7, 8, 9, 10, 11, 12, 13]) (ws := [1, 2, 3, 5, 11, 14, 15]) rfl (by kernel_rfl) (by kernel_rfl) (by kernel_rfl) ?_ ?_
    · intro x' q hG hd hin K hK
      have HIN := Lib.hid hin
      clear hin
      have d0 : x' 0 = (.pointer (some ⟨tb, 0, none⟩)) := hd 0 (by simp)
      refine HidG.mk ?_
      simp only [putsA, Act.put, List.setIfInBounds_toArray, List.set_cons_zero, List.set_cons_succ, Nat.reduceAdd, Nat.zero_add] at hK ⊢
      rw [d0] at hK ⊢
      go_simp
      refine hK _ _ (by exact hG.keep (Below.refl _ _) (by decide)) (fun j hj h => ?_) (by exact rfl)
      · simp only [List.mem_cons, List.not_mem_nil, or_false] at hj
        rcases hj with rfl | rfl | rfl | rfl | rfl | rfl | rfl | rfl | rfl | rfl | rfl | rfl
        · exact rz_keep (Below.refl _ _) (by decide) (by decide) h
        · exact rz_keep (Below.refl _ _) (by decide) (by decide) h
        · exact rz_keep (Below.refl _ _) (by decide) (by decide) h
        · exact rz_keep (Below.refl _ _) (by decide) (by decide) h
        · exact rz_keep (Below.refl _ _) (by decide) (by decide) h
        · exact rz_keep (Below.refl _ _) (by decide) (by decide) h
        · exact rz_keep (Below.refl _ _) (by decide) (by decide) h
        · exact rz_keep (Below.refl _ _) (by decide) (by decide) h
        · exact rz_keep (Below.refl _ _) (by decide) (by decide) h
        · exact rz_keep (Below.refl _ _) (by decide) (by decide) h
        · exact rz_keep (Below.refl _ _) (by decide) (by decide) h
        · exact rz_keep (Below.refl _ _) (by decide) (by decide) h
    refine .cons (o := ⟨some 40, _, _, _, _, _⟩) (ds := [1]) (js := [0, 1, 4, 5, 6, 7, 8, 9, 10, 11, 12, 13]) (ws := [2, 3, 5, 11, 14, 15]) rfl (by kernel_rfl) (by kernel_rfl) (by kernel_rfl) ?_ ?_
    · intro x' q hG hd hin K hK
      have HIN := Lib.hid hin
      clear hin
      have d1 : x' 1 = (.pointer (some ⟨tb, 0, none⟩)) := hd 1 (by simp)
      refine HidG.mk ?_
      simp only [putsA, Act.put, List.setIfInBounds_toArray, List.set_cons_zero, List.set_cons_succ, Nat.reduceAdd, Nat.zero_add] at hK ⊢
      rw [d1] at hK ⊢
      go_simp
      refine hK _ _ (by exact hG.keep (Below.refl _ _) (by decide)) (fun j hj h => ?_) (by exact rfl)
      · simp only [List.mem_cons, List.not_mem_nil, or_false] at hj
        rcases hj with rfl | rfl | rfl | rfl | rfl | rfl | rfl | rfl | rfl | rfl | rfl | rfl
        · exact rz_keep (Below.refl _ _) (by decide) (by decide) h
        · exact rz_keep (Below.refl _ _) (by decide) (by decide) h
        · exact rz_keep (Below.refl _ _) (by decide) (by decide) h
        · exact rz_keep (Below.refl _ _) (by decide) (by decide) h
        · exact rz_keep (Below.refl _ _) (by decide) (by decide) h
        · exact rz_keep (Below.refl _ _) (by decide) (by decide) h
        · exact rz_keep (Below.refl _ _) (by decide) (by decide) h
        · exact rz_keep (Below.refl _ _) (by decide) (by decide) h
        · exact rz_keep (Below.refl _ _) (by decide) (by decide) h
        · exact rz_keep (Below.refl _ _) (by decide) (by decide) h
        · exact rz_keep (Below.refl _ _) (by decide) (by decide) h
        · exact rz_keep (Below.refl _ _) (by decide) (by decide) h
    refine .cons (o := ⟨some 41, _, _, _, _, _⟩) (ds := [2]) (js := [0, 1, 2, 4, 6, 7, 8, 9, 10, 11, 12, 13]) (ws := [3, 5, 11, 14, 15]) rfl (by kernel_rfl) (by kernel_rfl) (by kernel_rfl) ?_ ?_
    · intro x' q hG hd hin K hK
      have HIN := Lib.hid hin
      clear hin
      have d2 : x' 2 = (.pointer (some ⟨tb, 0, none⟩)) := hd 2 (by simp)
      have k0 := H0.out q hG.b
      refine HidG.mk ?_
      simp only [putsA, Act.put, List.setIfInBounds_toArray, List.set_cons_zero, List.set_cons_succ, Nat.reduceAdd, Nat.zero_add] at hK ⊢
      rw [d2] at hK ⊢
      go_simp
      refine hK _ _ (by exact hG.keep (Below.refl _ _) (by decide)) (fun j hj h => ?_) (by exact rfl)
      · simp only [List.mem_cons, List.not_mem_nil, or_false] at hj
        rcases hj with rfl | rfl | rfl | rfl | rfl | rfl | rfl | rfl | rfl | rfl | rfl | rfl
        · exact rz_keep (Below.refl _ _) (by decide) (by decide) h
        · exact rz_keep (Below.refl _ _) (by decide) (by decide) h
        · exact rz_keep (Below.refl _ _) (by decide) (by decide) h
        · exact rz_keep (Below.refl _ _) (by decide) (by decide) h
        · exact rz_keep (Below.refl _ _) (by decide) (by decide) h
        · exact rz_keep (Below.refl _ _) (by decide) (by decide) h
        · exact rz_keep (Below.refl _ _) (by decide) (by decide) h
        · exact rz_keep (Below.refl _ _) (by decide) (by decide) h
        · exact rz_keep (Below.refl _ _) (by decide) (by decide) h
        · exact rz_keep (Below.refl _ _) (by decide) (by decide) h
        · exact rz_keep (Below.refl _ _) (by decide) (by decide) h
        · exact rz_keep (Below.refl _ _) (by decide) (by decide) h
    refine .cons (o := ⟨some 42, _, _, _, _, _⟩) (ds := []) (js := [0, 1, 2, 3, 6, 7, 8, 9, 10, 11, 12, 13]) (ws := [4, 5, 11, 14, 15]) rfl (by kernel_rfl) (by kernel_rfl) (by kernel_rfl) ?_ ?_
    · intro x' q hG hd hin K hK
      have HIN := Lib.hid hin
      clear hin
      obtain ⟨k0, k1, k2⟩ := HA.out q hG.b
      refine HidG.mk ?_
      simp only [putsA, Act.put, List.setIfInBounds_toArray, List.set_cons_zero, List.set_cons_succ, Nat.reduceAdd, Nat.zero_add] at hK ⊢
      go_simp
      refine hK _ _ (by exact hG.keep (Below.refl _ _) (by decide)) (fun j hj h => ?_) (by exact rfl)
      · simp only [List.mem_cons, List.not_mem_nil, or_false] at hj
        rcases hj with rfl | rfl | rfl | rfl | rfl | rfl | rfl | rfl | rfl | rfl | rfl | rfl
        · exact rz_keep (Below.refl _ _) (by decide) (by decide) h
        · exact rz_keep (Below.refl _ _) (by decide) (by decide) h
        · exact rz_keep (Below.refl _ _) (by decide) (by decide) h
        · exact rz_keep (Below.refl _ _) (by decide) (by decide) h
        · exact rz_keep (Below.refl _ _) (by decide) (by decide) h
        · exact rz_keep (Below.refl _ _) (by decide) (by decide) h
        · exact rz_keep (Below.refl _ _) (by decide) (by decide) h
        · exact rz_keep (Below.refl _ _) (by decide) (by decide) h
        · exact rz_keep (Below.refl _ _) (by decide) (by decide) h
        · exact rz_keep (Below.refl _ _) (by decide) (by decide) h
        · exact rz_keep (Below.refl _ _) (by decide) (by decide) h
        · exact rz_keep (Below.refl _ _) (by decide) (by decide) h
    refine .cons (o := ⟨some 43, _, _, _, _, _⟩) (ds := [3, 4]) (js := [0, 1, 2, 3, 4, 6, 7, 8, 9, 10, 12, 13]) (ws := [5, 11, 14, 15]) rfl (by kernel_rfl) (by kernel_rfl) (by kernel_rfl) ?_ ?_
    · intro x' q hG hd hin K hK
      have HIN := Lib.hid hin
      clear hin
      have d3 : x' 3 = (.pointer (some ⟨sb, 0, none⟩)) := hd 3 (by simp)
      have d4 : x' 4 = (.agg #[.int .i64 Fa, .int .i64 Ga, .slice Aa Ma ca]) := hd 4 (by simp)
      refine HidG.mk ?_
      simp only [putsA, Act.put, List.setIfInBounds_toArray, List.set_cons_zero, List.set_cons_succ, Nat.reduceAdd, Nat.zero_add] at hK ⊢
      rw [d3, d4] at hK ⊢
      go_simp
      (with_reducible refine (HX.out _ hG.b).mono ?_)
      rintro e q1 ⟨tv, rfl, ht, hb⟩
      refine hK _ _ (by exact hG.keep hb (by decide)) (fun j hj h => ?_) (by exact ht)
      · simp only [List.mem_cons, List.not_mem_nil, or_false] at hj
        rcases hj with rfl | rfl | rfl | rfl | rfl | rfl | rfl | rfl | rfl | rfl | rfl | rfl
        · exact rz_keep hb (by decide) (by decide) h
        · exact rz_keep hb (by decide) (by decide) h
        · exact rz_keep hb (by decide) (by decide) h
        · exact rz_keep hb (by decide) (by decide) h
        · exact rz_keep hb (by decide) (by decide) h
        · exact rz_keep hb (by decide) (by decide) h
        · exact rz_keep hb (by decide) (by decide) h
        · exact rz_keep hb (by decide) (by decide) h
        · exact rz_keep hb (by decide) (by decide) h
        · exact rz_keep hb (by decide) (by decide) h
        · exact rz_keep hb (by decide) (by decide) h
        · exact rz_keep hb (by decide) (by decide) h
    refine .cons (o := ⟨some 44, _, _, _, _, _⟩) (ds := []) (js := [0, 1, 2, 3, 4, 5, 8, 9, 10, 11, 12, 13, 14]) (ws := [6, 7, 8, 9, 11, 14, 15]) rfl (by kernel_rfl) (by kernel_rfl) (by kernel_rfl) ?_ ?_
    · intro x' q hG hd hin K hK
      have HIN := Lib.hid hin
      clear hin
      refine HidG.mk ?_
      simp only [putsA, Act.put, List.setIfInBounds_toArray, List.set_cons_zero, List.set_cons_succ, Nat.reduceAdd, Nat.zero_add] at hK ⊢
      go_simp
      refine hK _ _ (by exact hG.keep (Below.refl _ _) (by decide)) (fun j hj h => ?_) (by exact rfl)
      · simp only [List.mem_cons, List.not_mem_nil, or_false] at hj
        rcases hj with rfl | rfl | rfl | rfl | rfl | rfl | rfl | rfl | rfl | rfl | rfl | rfl | rfl
        · exact rz_keep (Below.refl _ _) (by decide) (by decide) h
        · exact rz_keep (Below.refl _ _) (by decide) (by decide) h
        · exact rz_keep (Below.refl _ _) (by decide) (by decide) h
        · exact rz_keep (Below.refl _ _) (by decide) (by decide) h
        · exact rz_keep (Below.refl _ _) (by decide) (by decide) h
        · exact rz_keep (Below.refl _ _) (by decide) (by decide) h
        · exact rz_keep (Below.refl _ _) (by decide) (by decide) h
        · exact rz_keep (Below.refl _ _) (by decide) (by decide) h
        · exact rz_keep (Below.refl _ _) (by decide) (by decide) h
        · exact rz_keep (Below.refl _ _) (by decide) (by decide) h
        · exact rz_keep (Below.refl _ _) (by decide) (by decide) h
        · exact rz_keep (Below.refl _ _) (by decide) (by decide) h
        · exact rz_keep (Below.refl _ _) (by decide) (by decide) h
    refine .cons (o := ⟨some 45, _, _, _, _, _⟩) (ds := [6]) (js := [0, 1, 2, 3, 4, 5, 6, 9, 10, 11, 12, 13, 14]) (ws := [7, 8, 9, 11, 14, 15]) rfl (by kernel_rfl) (by kernel_rfl) (by kernel_rfl) ?_ ?_
    · intro x' q hG hd hin K hK
      have HIN := Lib.hid hin
      clear hin
      have d6 : x' 6 = (.pointer (some ⟨tb, 0, none⟩)) := hd 6 (by simp)
      refine HidG.mk ?_
      simp only [putsA, Act.put, List.setIfInBounds_toArray, List.set_cons_zero, List.set_cons_succ, Nat.reduceAdd, Nat.zero_add] at hK ⊢
      rw [d6] at hK ⊢
      go_simp
      refine hK _ _ (by exact hG.keep (Below.refl _ _) (by decide)) (fun j hj h => ?_) (by exact rfl)
      · simp only [List.mem_cons, List.not_mem_nil, or_false] at hj
        rcases hj with rfl | rfl | rfl | rfl | rfl | rfl | rfl | rfl | rfl | rfl | rfl | rfl | rfl
        · exact rz_keep (Below.refl _ _) (by decide) (by decide) h
        · exact rz_keep (Below.refl _ _) (by decide) (by decide) h
        · exact rz_keep (Below.refl _ _) (by decide) (by decide) h
        · exact rz_keep (Below.refl _ _) (by decide) (by decide) h
        · exact rz_keep (Below.refl _ _) (by decide) (by decide) h
        · exact rz_keep (Below.refl _ _) (by decide) (by decide) h
        · exact rz_keep (Below.refl _ _) (by decide) (by decide) h
        · exact rz_keep (Below.refl _ _) (by decide) (by decide) h
        · exact rz_keep (Below.refl _ _) (by decide) (by decide) h
        · exact rz_keep (Below.refl _ _) (by decide) (by decide) h
        · exact rz_keep (Below.refl _ _) (by decide) (by decide) h
        · exact rz_keep (Below.refl _ _) (by decide) (by decide) h
        · exact rz_keep (Below.refl _ _) (by decide) (by decide) h
    refine .cons (o := ⟨some 46, _, _, _, _, _⟩) (ds := [7]) (js := [0, 1, 2, 3, 4, 5, 6, 7, 10, 11, 12, 13, 14]) (ws := [8, 9, 11, 14, 15]) rfl (by kernel_rfl) (by kernel_rfl) (by kernel_rfl) ?_ ?_
    · intro x' q hG hd hin K hK
      have HIN := Lib.hid hin
      clear hin
      have d7 : x' 7 = (.pointer (some ⟨tb, 0, none⟩)) := hd 7 (by simp)
      refine HidG.mk ?_
      simp only [putsA, Act.put, List.setIfInBounds_toArray, List.set_cons_zero, List.set_cons_succ, Nat.reduceAdd, Nat.zero_add] at hK ⊢
      rw [d7] at hK ⊢
      go_simp
      refine hK _ _ (by exact hG.keep (Below.refl _ _) (by decide)) (fun j hj h => ?_) (by exact rfl)
      · simp only [List.mem_cons, List.not_mem_nil, or_false] at hj
        rcases hj with rfl | rfl | rfl | rfl | rfl | rfl | rfl | rfl | rfl | rfl | rfl | rfl | rfl
        · exact rz_keep (Below.refl _ _) (by decide) (by decide) h
        · exact rz_keep (Below.refl _ _) (by decide) (by decide) h
        · exact rz_keep (Below.refl _ _) (by decide) (by decide) h
        · exact rz_keep (Below.refl _ _) (by decide) (by decide) h
        · exact rz_keep (Below.refl _ _) (by decide) (by decide) h
        · exact rz_keep (Below.refl _ _) (by decide) (by decide) h
        · exact rz_keep (Below.refl _ _) (by decide) (by decide) h
        · exact rz_keep (Below.refl _ _) (by decide) (by decide) h
        · exact rz_keep (Below.refl _ _) (by decide) (by decide) h
        · exact rz_keep (Below.refl _ _) (by decide) (by decide) h
        · exact rz_keep (Below.refl _ _) (by decide) (by decide) h
        · exact rz_keep (Below.refl _ _) (by decide) (by decide) h
        · exact rz_keep (Below.refl _ _) (by decide) (by decide) h
    refine .cons (o := ⟨some 47, _, _, _, _, _⟩) (ds := [8]) (js := [0, 1, 2, 3, 4, 5, 6, 7, 8, 10, 12, 13, 14]) (ws := [9, 11, 14, 15]) rfl (by kernel_rfl) (by kernel_rfl) (by kernel_rfl) ?_ ?_
    · intro x' q hG hd hin K hK
      have HIN := Lib.hid hin
      clear hin
      have d8 : x' 8 = (.pointer (some ⟨tb, 0, none⟩)) := hd 8 (by simp)
      have k0 := H0.out q hG.b
      refine HidG.mk ?_
      simp only [putsA, Act.put, List.setIfInBounds_toArray, List.set_cons_zero, List.set_cons_succ, Nat.reduceAdd, Nat.zero_add] at hK ⊢
      rw [d8] at hK ⊢
      go_simp
      refine hK _ _ (by exact hG.keep (Below.refl _ _) (by decide)) (fun j hj h => ?_) (by exact rfl)
      · simp only [List.mem_cons, List.not_mem_nil, or_false] at hj
        rcases hj with rfl | rfl | rfl | rfl | rfl | rfl | rfl | rfl | rfl | rfl | rfl | rfl | rfl
        · exact rz_keep (Below.refl _ _) (by decide) (by decide) h
        · exact rz_keep (Below.refl _ _) (by decide) (by decide) h
        · exact rz_keep (Below.refl _ _) (by decide) (by decide) h
        · exact rz_keep (Below.refl _ _) (by decide) (by decide) h
        · exact rz_keep (Below.refl _ _) (by decide) (by decide) h
        · exact rz_keep (Below.refl _ _) (by decide) (by decide) h
        · exact rz_keep (Below.refl _ _) (by decide) (by decide) h
        · exact rz_keep (Below.refl _ _) (by decide) (by decide) h
        · exact rz_keep (Below.refl _ _) (by decide) (by decide) h
        · exact rz_keep (Below.refl _ _) (by decide) (by decide) h
        · exact rz_keep (Below.refl _ _) (by decide) (by decide) h
        · exact rz_keep (Below.refl _ _) (by decide) (by decide) h
        · exact rz_keep (Below.refl _ _) (by decide) (by decide) h
    refine .cons (o := ⟨some 48, _, _, _, _, _⟩) (ds := []) (js := [0, 1, 2, 3, 4, 5, 6, 7, 8, 9, 12, 13, 14]) (ws := [10, 11, 14, 15]) rfl (by kernel_rfl) (by kernel_rfl) (by kernel_rfl) ?_ ?_
    · intro x' q hG hd hin K hK
      have HIN := Lib.hid hin
      clear hin
      obtain ⟨k0, k1, k2⟩ := HB.out q hG.b
      refine HidG.mk ?_
      simp only [putsA, Act.put, List.setIfInBounds_toArray, List.set_cons_zero, List.set_cons_succ, Nat.reduceAdd, Nat.zero_add] at hK ⊢
      go_simp
      refine hK _ _ (by exact hG.keep (Below.refl _ _) (by decide)) (fun j hj h => ?_) (by exact rfl)
      · simp only [List.mem_cons, List.not_mem_nil, or_false] at hj
        rcases hj with rfl | rfl | rfl | rfl | rfl | rfl | rfl | rfl | rfl | rfl | rfl | rfl | rfl
        · exact rz_keep (Below.refl _ _) (by decide) (by decide) h
        · exact rz_keep (Below.refl _ _) (by decide) (by decide) h
        · exact rz_keep (Below.refl _ _) (by decide) (by decide) h
        · exact rz_keep (Below.refl _ _) (by decide) (by decide) h
        · exact rz_keep (Below.refl _ _) (by decide) (by decide) h
        · exact rz_keep (Below.refl _ _) (by decide) (by decide) h
        · exact rz_keep (Below.refl _ _) (by decide) (by decide) h
        · exact rz_keep (Below.refl _ _) (by decide) (by decide) h
        · exact rz_keep (Below.refl _ _) (by decide) (by decide) h
        · exact rz_keep (Below.refl _ _) (by decide) (by decide) h
        · exact rz_keep (Below.refl _ _) (by decide) (by decide) h
        · exact rz_keep (Below.refl _ _) (by decide) (by decide) h
        · exact rz_keep (Below.refl _ _) (by decide) (by decide) h
    refine .cons (o := ⟨some 49, _, _, _, _, _⟩) (ds := [9, 10, 5]) (js := [0, 1, 2, 3, 4, 5, 6, 7, 8, 9, 10, 12, 13]) (ws := [11, 14, 15]) rfl (by kernel_rfl) (by kernel_rfl) (by kernel_rfl) ?_ ?_
    · intro x' q hG hd hin K hK
      have HIN := Lib.hid hin
      clear hin
      have d9 : x' 9 = (.pointer (some ⟨sb, 0, none⟩)) := hd 9 (by simp)
      have d10 : x' 10 = (.agg #[.int .i64 Fb, .int .i64 Gb, .slice Ab Mb cb]) := hd 10 (by simp)
      refine HidG.mk ?_
      simp only [putsA, Act.put, List.setIfInBounds_toArray, List.set_cons_zero, List.set_cons_succ, Nat.reduceAdd, Nat.zero_add] at hK ⊢
      rw [d9, d10] at hK ⊢
      go_simp
      (with_reducible refine (HY.out _ hG.b).mono ?_)
      rintro e q1 ⟨tv, rfl, ht, hb⟩
      refine hK _ _ (by exact hG.keep hb (by decide)) (fun j hj h => ?_) (by exact ht)
      · simp only [List.mem_cons, List.not_mem_nil, or_false] at hj
        rcases hj with rfl | rfl | rfl | rfl | rfl | rfl | rfl | rfl | rfl | rfl | rfl | rfl | rfl
        · exact rz_keep hb (by decide) (by decide) h
        · exact rz_keep hb (by decide) (by decide) h
        · exact rz_keep hb (by decide) (by decide) h
        · exact rz_keep hb (by decide) (by decide) h
        · exact rz_keep hb (by decide) (by decide) h
        · exact rz_keep hb (by decide) (by decide) h
        · exact rz_keep hb (by decide) (by decide) h
        · exact rz_keep hb (by decide) (by decide) h
        · exact rz_keep hb (by decide) (by decide) h
        · exact rz_keep hb (by decide) (by decide) h
        · exact rz_keep hb (by decide) (by decide) h
        · exact rz_keep hb (by decide) (by decide) h
        · exact rz_keep hb (by decide) (by decide) h
    refine .cons (o := ⟨some 7, _, _, _, _, _⟩) (ds := []) (js := [0, 1, 2, 3, 4, 5, 6, 7, 8, 9, 10, 11, 13]) (ws := [12, 14, 15]) rfl (by kernel_rfl) (by kernel_rfl) (by kernel_rfl) ?_ ?_
    · intro x' q hG hd hin K hK
      have HIN := Lib.hid hin
      clear hin
      refine HidG.mk ?_
      simp only [putsA, Act.put, List.setIfInBounds_toArray, List.set_cons_zero, List.set_cons_succ, Nat.reduceAdd, Nat.zero_add] at hK ⊢
      go_simp
      refine hK _ _ (by exact hG.new _) (fun j hj h => ?_) (by exact rz_obox hG (by decide) rfl)
      · simp only [List.mem_cons, List.not_mem_nil, or_false] at hj
        rcases hj with rfl | rfl | rfl | rfl | rfl | rfl | rfl | rfl | rfl | rfl | rfl | rfl | rfl
        · exact rz_alloc _ (by decide) (fun i t => by intro e; cases e) h
        · exact rz_alloc _ (by decide) (fun i t => by intro e; cases e) h
        · exact rz_alloc _ (by decide) (fun i t => by intro e; cases e) h
        · exact rz_alloc _ (by decide) (fun i t => by intro e; cases e) h
        · exact rz_alloc _ (by decide) (fun i t => by intro e; cases e) h
        · exact rz_alloc _ (by decide) (fun i t => by intro e; cases e) h
        · exact rz_alloc _ (by decide) (fun i t => by intro e; cases e) h
        · exact rz_alloc _ (by decide) (fun i t => by intro e; cases e) h
        · exact rz_alloc _ (by decide) (fun i t => by intro e; cases e) h
        · exact rz_alloc _ (by decide) (fun i t => by intro e; cases e) h
        · exact rz_alloc _ (by decide) (fun i t => by intro e; cases e) h
        · exact rz_alloc _ (by decide) (fun i t => by intro e; cases e) h
        · exact rz_alloc _ (by decide) (fun i t => by intro e; cases e) h
    refine .cons (o := ⟨some 8, _, _, _, _, _⟩) (ds := []) (js := [0, 1, 2, 3, 4, 5, 6, 7, 8, 9, 10, 11, 12]) (ws := [13, 14, 15]) rfl (by kernel_rfl) (by kernel_rfl) (by kernel_rfl) ?_ ?_
    · intro x' q hG hd hin K hK
      have HIN := Lib.hid hin
      clear hin
      refine HidG.mk ?_
      simp only [putsA, Act.put, List.setIfInBounds_toArray, List.set_cons_zero, List.set_cons_succ, Nat.reduceAdd, Nat.zero_add] at hK ⊢
      go_simp
      refine hK _ _ (by exact hG.new _) (fun j hj h => ?_) (by exact rz_obox hG (by decide) rfl)
      · simp only [List.mem_cons, List.not_mem_nil, or_false] at hj
        rcases hj with rfl | rfl | rfl | rfl | rfl | rfl | rfl | rfl | rfl | rfl | rfl | rfl | rfl
        · exact rz_alloc _ (by decide) (fun i t => by intro e; cases e) h
        · exact rz_alloc _ (by decide) (fun i t => by intro e; cases e) h
        · exact rz_alloc _ (by decide) (fun i t => by intro e; cases e) h
        · exact rz_alloc _ (by decide) (fun i t => by intro e; cases e) h
        · exact rz_alloc _ (by decide) (fun i t => by intro e; cases e) h
        · exact rz_alloc _ (by decide) (fun i t => by intro e; cases e) h
        · exact rz_alloc _ (by decide) (fun i t => by intro e; cases e) h
        · exact rz_alloc _ (by decide) (fun i t => by intro e; cases e) h
        · exact rz_alloc _ (by decide) (fun i t => by intro e; cases e) h
        · exact rz_alloc _ (by decide) (fun i t => by intro e; cases e) h
        · exact rz_alloc _ (by decide) (fun i t => by intro e; cases e) h
        · exact rz_alloc _ (by decide) (fun i t => by intro e; cases e) h
        · exact rz_alloc _ (by decide) (fun i t => by intro e; cases e) h
    refine .cons (o := ⟨none, _, _, _, _, _⟩) (ds := [12, 5, 11, 0, 1, 2, 3, 4, 5, 12, 13]) (js := [0, 1, 2, 3, 4, 5, 6, 7, 8, 9, 10, 11, 12, 13]) (ws := [14, 15]) rfl (by kernel_rfl) (by kernel_rfl) (by kernel_rfl) ?_ .nil
    · intro x' q hG hd hin K hK
      have HIN := Lib.hid hin
      clear hin
      have d0 : x' 0 = (.pointer (some ⟨tb, 0, none⟩)) := hd 0 (by simp)
      have d1 : x' 1 = (.pointer (some ⟨tb, 0, none⟩)) := hd 1 (by simp)
      have d2 : x' 2 = (.pointer (some ⟨tb, 0, none⟩)) := hd 2 (by simp)
      have d3 : x' 3 = (.pointer (some ⟨sb, 0, none⟩)) := hd 3 (by simp)
      have d4 : x' 4 = (.agg #[.int .i64 Fa, .int .i64 Ga, .slice Aa Ma ca]) := hd 4 (by simp)
      have d5 : ZAt P q t (x' 5) := hd 5 (by simp)
      have d12 : ∃ g, 12 ∈ [12, 13] ∧ x' 12 = ptrZ g ∧ V.heap.size ≤ g ∧ OB q g ∧ ∀ k ∈ [12, 13], k ≠ 12 → x' k ≠ x' 12 := hd 12 (by simp)
      obtain ⟨g, _, d12, d8, d9, d10⟩ := d12
      obtain ⟨A, c, e6⟩ := d5.form
      rw [e6] at d5
      have hput := d9.put d5 (fun h => by have := hP g h; omega)
      obtain ⟨⟨u0, e0⟩, ⟨u1, e1⟩, ⟨u2, e2⟩, f0, f1, f2⟩ := d9
      have d12' := d12
      unfold ptrZ at d12
      refine HidG.mk ?_
      simp only [putsA, Act.put, List.setIfInBounds_toArray, List.set_cons_zero, List.set_cons_succ, Nat.reduceAdd, Nat.zero_add] at hK ⊢
      rw [d0, d1, d2, d3, d4] at hK ⊢
      rw [d12, e6] at hK ⊢
      go_simp
      refine hK undef _ (by exact hG.put d8 (by decide)) (fun j hj h => ?_) (by exact ⟨g, A, c, by decide, (upd_ne (by decide)).trans d12', d8, hput, fun k hk hne => by rw [upd_ne (mem_ne hk (by decide)), upd_ne (by decide)]; exact d10 k hk hne⟩)
      · simp only [List.mem_cons, List.not_mem_nil, or_false] at hj
        rcases hj with rfl | rfl | rfl | rfl | rfl | rfl | rfl | rfl | rfl | rfl | rfl | rfl | rfl | rfl
        · exact rz_put hP d8 (by decide) (by decide) (fun i t => by intro e; cases e) (by intro e; cases e) h
        · exact rz_put hP d8 (by decide) (by decide) (fun i t => by intro e; cases e) (by intro e; cases e) h
        · exact rz_put hP d8 (by decide) (by decide) (fun i t => by intro e; cases e) (by intro e; cases e) h
        · exact rz_put hP d8 (by decide) (by decide) (fun i t => by intro e; cases e) (by intro e; cases e) h
        · exact rz_put hP d8 (by decide) (by decide) (fun i t => by intro e; cases e) (by intro e; cases e) h
        · exact rz_put hP d8 (by decide) (by decide) (fun i t => by intro e; cases e) (by intro e; cases e) h
        · exact rz_put hP d8 (by decide) (by decide) (fun i t => by intro e; cases e) (by intro e; cases e) h
        · exact rz_put hP d8 (by decide) (by decide) (fun i t => by intro e; cases e) (by intro e; cases e) h
        · exact rz_put hP d8 (by decide) (by decide) (fun i t => by intro e; cases e) (by intro e; cases e) h
        · exact rz_put hP d8 (by decide) (by decide) (fun i t => by intro e; cases e) (by intro e; cases e) h
        · exact rz_put hP d8 (by decide) (by decide) (fun i t => by intro e; cases e) (by intro e; cases e) h
        · exact rz_put hP d8 (by decide) (by decide) (fun i t => by intro e; cases e) (by intro e; cases e) h
        · exact rz_put hP d8 (by decide) (by decide) (fun i t => by intro e; cases e) (by intro e; cases e) h
        · exact rz_put hP d8 (by decide) (by decide) (fun i t => by intro e; cases e) (by intro e; cases e) h
  · intro x' q hG hd hin K hK
    have HIN := Lib.hid hin
    clear hin
    have d11 : ZAt P q t' (x' 11) := hd 11 (by omega)
    have d13 : ∃ g, 13 ∈ [12, 13] ∧ x' 13 = ptrZ g ∧ V.heap.size ≤ g ∧ OB q g ∧ ∀ k ∈ [12, 13], k ≠ 13 → x' k ≠ x' 13 := hd 13 (by omega)
    have d14 : ∃ g A c, 12 ∈ [12, 13] ∧ x' 12 = ptrZ g ∧ V.heap.size ≤ g ∧ TB P q g t A c ∧ ∀ k ∈ [12, 13], k ≠ 12 → x' k ≠ x' 12 := hd 14 (by omega)
    obtain ⟨g', _, d13, d8, d9, d10⟩ := d13
    obtain ⟨g, A, c, _, p12, p8, p9, p10⟩ := d14
    obtain ⟨B, d, e6⟩ := d11.form
    rw [e6] at d11
    have hne : g ≠ g' := fun e => p10 13 (by decide) (by decide) (by rw [d13, p12, e])
    have hput := d9.put d11 (fun h => by have := hP g' h; omega)
    have hkeep := p9.keep (put3_block (u := .int .i64 (formZ t')) (v := .int .i64 (numZ t')) (z := .slice B (argsZ t') d) hne) (put3_keeps (fun h => by have := hP g' h; omega))
    obtain ⟨⟨u0, e0⟩, ⟨u1, e1⟩, ⟨u2, e2⟩, f0, f1, f2⟩ := d9
    have d13' := Lib.hid d13
    have P12 := Lib.hid p12
    clear p12
    unfold ptrZ at d13
    refine HidG.mk ?_
    simp only [putsA, Act.put, List.setIfInBounds_toArray, List.set_cons_zero, List.set_cons_succ, Nat.reduceAdd, Nat.zero_add] at hK ⊢
    rw [d13, e6] at hK ⊢
    go_simp
    refine hK undef _ ⟨g, g', A, c, B, d, P12.out, ?_, hkeep, hput, p8, d8, hne, put3_below hG.b d8⟩
    exact d13'.out
  · intro x' q hF
    simp only [putsA, Act.put, List.setIfInBounds_toArray, List.set_cons_zero, List.set_cons_succ, Nat.reduceAdd, Nat.zero_add]
    obtain ⟨g, g', A, c, B, d, e12, e13, hB⟩ := hF
    rw [e12, e13]
    exact hf (x' 0) (x' 1) (x' 2) (x' 3) (x' 4) (x' 5) (x' 6) (x' 7) (x' 8) (x' 9) (x' 10) (x' 11) g g' A c B d q hB
end Go.Proofs.Ytomhojpoaicioaa
