/- TypesSame (chapter 4): types of the small world are told by both ways, also when a leaf was put into them; the law's regions that draw their order, each by itself. Conditions: those that each theorem names. -/
import Derived.Test.YtbdfjboojokgdaaDoorJU40
import Derived.Test.YtbdfjboojokgdaaDoorJU44
import Derived.Test.YtbdfjboojokgdaaDoorJU25
import Derived.Deep.RegionHeld3
namespace Go.Proofs.YtbdfjboojokgdaaDoor
open Go.RowKit

theorem world_lt : ∀ (t : Ty), t.world → t.lt 1048576
  | .hole n, h => by simp only [Ty.world] at h; simp only [Ty.lt]; omega
  | .var s, h => by rcases h with rfl | rfl | rfl | rfl <;> (simp only [Ty.lt]; decide)
  | .con s, h => by rcases h with rfl | rfl | rfl | rfl | rfl | rfl <;> (simp only [Ty.lt]; decide)
  | .app a b, h => ⟨world_lt a h.1, world_lt b h.2⟩
  | .all s a, h => ⟨by rcases h.1 with rfl | rfl | rfl | rfl <;> decide, world_lt a h.2⟩
theorem letB_size (n : Nat) : (letB n).size ≤ n + 2 := by
  have h1 : (letB n).size = (lettersL n).length := by
    show (lettersL n).toArray.size = _
    simp
  rw [h1]
  unfold lettersL
  rw [List.length_cons]
  split
  · simp
  · have := dec_len _ (n / 26) (Nat.lt_succ_self _)
    omega
theorem letN_le (q : ByteArray → Bool) : ∀ (f n : Nat), letN q f n ≤ n + f
  | 0, n => by rw [letN]; omega
  | f + 1, n => by
    rw [letN]
    split
    · have := letN_le q f (n + 1); omega
    · omega
theorem freeT_len (t : Ty) : t.free.length ≤ t.sz := by
  have := freeD_len [] [] t
  rw [free_is] at this
  simpa using this
/-- Leaves alone are put. -/
def LeafP (σ : List (ByteArray × Ty)) : Prop := ∀ p ∈ σ, ∃ s : ByteArray, s.size ≤ 1048576 ∧ p.2 = .var s
theorem taken_leaf : ∀ (σ : List (ByteArray × Ty)), LeafP σ → (takenB σ).length ≤ σ.length
  | [], _ => by simp [takenB]
  | p :: r, h => by
    have ih := taken_leaf r (fun q hq => h q (List.mem_cons_of_mem _ hq))
    obtain ⟨s, _, hs⟩ := h p (List.mem_cons_self ..)
    have h1 : p.2.free.length ≤ 1 := by have := freeT_len p.2; rw [hs] at this ⊢; simpa [Ty.sz] using this
    unfold takenB at ih ⊢
    rw [List.flatMap_cons, List.length_append, List.length_cons]
    omega
theorem into_len (s : ByteArray) (b : Ty) (σ : List (ByteArray × Ty)) : (intoB s b σ).length ≤ σ.length := by unfold intoB; exact List.length_filter_le ..
theorem into_leaf {s : ByteArray} {b : Ty} {σ : List (ByteArray × Ty)} (h : LeafP σ) : LeafP (intoB s b σ) := fun p hp => h p (mem_intoB hp)
theorem fresh_size (b : Ty) (τ : List (ByteArray × Ty)) (h : LeafP τ) : (freshB b τ).size ≤ τ.length + b.sz + 2 := by
  unfold freshB
  have h1 := letN_le (fun x => hasB (takenB τ ++ b.free) x) (takenB τ ++ b.free).length 0
  have h2 := letB_size (letN (fun x => hasB (takenB τ ++ b.free) x) (takenB τ ++ b.free).length 0)
  have h3 := taken_leaf τ h
  have h4 := freeT_len b
  rw [List.length_append] at h1 h2
  rw [List.length_append]
  omega
theorem lt_sub : ∀ (t : Ty) (σ : List (ByteArray × Ty)), t.lt 1048576 → LeafP σ → σ.length + 2 * t.sz + 4 ≤ 1048576 → (t.sub σ).lt 1048576
  | .hole _, _, h, _, _ => h
  | .var s, σ, h, hs, _ => lookS_P (P := fun u => u.lt 1048576) (fun p hp => by obtain ⟨x, hx, e⟩ := hs p hp; rw [e]; exact hx) h
  | .con _, _, h, _, _ => h
  | .app a b, σ, h, hs, hz => ⟨lt_sub a σ h.1 hs (by simp only [Ty.sz] at hz; omega), lt_sub b σ h.2 hs (by simp only [Ty.sz] at hz; omega)⟩
  | .all s a, σ, h, hs, hz => by
    simp only [Ty.sz] at hz
    have hi := into_len s a σ
    have hil : LeafP (intoB s a σ) := into_leaf hs
    have hf := fresh_size a (intoB s a σ) hil
    simp only [Ty.sub]
    split
    · refine ⟨by omega, lt_sub a _ h.2 (fun p hp => ?_) (by rw [List.length_append, List.length_singleton]; omega)⟩
      rw [List.mem_append, List.mem_singleton] at hp
      rcases hp with hp | rfl
      · exact hil p hp
      · exact ⟨_, by omega, rfl⟩
    · exact ⟨h.1, lt_sub a _ h.2 hil (by omega)⟩
theorem sz_subW : ∀ (t : Ty) (σ : List (ByteArray × Ty)), (∀ p ∈ σ, p.2.sz = 1) → (t.sub σ).sz = t.sz
  | .hole _, _, _ => rfl
  | .var s, σ, hs => lookS_P (P := fun u => u.sz = 1) hs rfl
  | .con _, _, _ => rfl
  | .app a b, σ, hs => by simp only [Ty.sub, Ty.sz]; rw [sz_subW a σ hs, sz_subW b σ hs]
  | .all s a, σ, hs => by
    have hil : ∀ p ∈ intoB s a σ, p.2.sz = 1 := fun p hp => hs p (mem_intoB hp)
    simp only [Ty.sub]
    split
    · simp only [Ty.sz]
      rw [sz_subW a _ (fun p hp => by
        rw [List.mem_append, List.mem_singleton] at hp
        rcases hp with hp | rfl
        · exact hil p hp
        · rfl)]
    · simp only [Ty.sz]; rw [sz_subW a _ hil]
theorem sz_sub1 (t : Ty) (σ : List (ByteArray × Ty)) (h : LeafP σ) : (t.sub σ).sz = t.sz := sz_subW t σ (fun p hp => by obtain ⟨x, _, e⟩ := h p hp; rw [e]; rfl)
/-- Types that TypesSame makes. -/
theorem tame_world {t : Ty} (h : t.world) (hz : t.sz ≤ 8192) : t.tame := ⟨world_okN t h, world_lt t h, by omega⟩
theorem tame_all {t : Ty} {s : ByteArray} (h : t.tame) (hs : s.size ≤ 1048576) (hz : t.sz ≤ 8192) : (Ty.all s t).tame := ⟨h.ok, ⟨hs, h.lt⟩, by simp only [Ty.sz]; omega⟩
theorem tame_sub1 {t : Ty} {s k : ByteArray} (h : t.tame) (hk : k.size ≤ 1048576) (hkt : TkN k.data.toList) (hz : t.sz ≤ 8192) : (t.sub [(s, .var k)]).tame ∧ (t.sub [(s, .var k)]).sz = t.sz := by
  have hl : LeafP [(s, Ty.var k)] := fun p hp => by rw [List.mem_singleton] at hp; subst hp; exact ⟨k, hk, rfl⟩
  have h1 := sz_sub1 t _ hl
  exact ⟨⟨okN_sub t _ h.ok (fun p hp => by rw [List.mem_singleton] at hp; subst hp; exact hkt), lt_sub t _ h.lt hl (by simp only [List.length_singleton]; omega), by omega⟩, h1⟩
theorem nameS_size (n : Int) : (nameS n).size = 1 := by
  unfold nameS nameK
  repeat' split
  all_goals rfl
theorem nameS_tk (n : Int) : TkN (nameS n).data.toList := by
  unfold nameS nameK
  repeat' split
  all_goals (intro c hc; simp at hc; subst hc; decide)
theorem short_lt : ∀ (t : Ty), t.lt 1048576 → t.short
  | .hole _, _ => trivial
  | .var s, h => by simp only [Ty.lt] at h; simp only [Ty.short]; omega
  | .con s, h => by simp only [Ty.lt] at h; simp only [Ty.short]; omega
  | .app a b, h => ⟨short_lt a h.1, short_lt b h.2⟩
  | .all s a, h => ⟨by have := h.1; omega, short_lt a h.2⟩
theorem leaf_szB (n k : Int) : (leafZ n k).sz = 1 := by
  unfold leafZ
  split
  · rfl
  · split <;> rfl
theorem built_szB : ∀ (f : Nat) (l : List Int), (builtZ f l).1.sz ≤ 4 ^ (f + 1)
  | f, [] => by
    have : builtZ f [] = (.con ⟨#[73, 110, 116]⟩, []) := by cases f <;> rfl
    rw [this]; exact Nat.one_le_pow _ _ (by omega)
  | 0, z :: l => by show (leafZ _ _).sz ≤ 4; rw [leaf_szB]; omega
  | f + 1, z :: l => by
    have h1 := built_szB f l
    have h2 := built_szB f (builtZ f l).2
    have h3 : 4 ≤ 4 ^ (f + 1) := by have := Nat.one_le_pow f 4 (by omega); rw [Nat.pow_succ]; omega
    rw [builtZ]
    split
    · show (leafZ _ _).sz ≤ _; rw [leaf_szB]; exact Nat.one_le_pow _ _ (by omega)
    · split
      · show (builtZ f l).1.sz + 1 ≤ _; rw [Nat.pow_succ]; omega
      · show (ite _ _ _ : Ty).sz ≤ _
        split
        · show 1 + (builtZ f l).1.sz + 1 + (builtZ f (builtZ f l).2).1.sz + 1 ≤ _; rw [Nat.pow_succ]; omega
        · show (builtZ f l).1.sz + (builtZ f (builtZ f l).2).1.sz + 1 ≤ _; rw [Nat.pow_succ]; omega
theorem madeZ_szB (zs : List Int) : (madeZ zs).sz ≤ 4096 := built_szB 5 _
def zBox (q : World) (g : Nat) : Prop := Box4 q g (.int .i64 0) (.int .i64 0) (.string ⟨#[]⟩) (.slice none 0 0)
/-- A variable of type api.Type that holds a type. -/
def VarTy (X : World) (t : Ty) (v : Value) (q : World) : Prop := ∃ (g : Nat) (f m : Int) (s : ByteArray) (A : Option Addr) (l c : Nat), v = .pointer (some ⟨g, 0, none⟩) ∧ Box4 q g (.int .i64 f) (.int .i64 m) (.string s) (.slice A l c) ∧ TyAt (fun _ => True) q t (.agg #[.int .i64 f, .int .i64 m, .string s, .slice A l c]) ∧ Below X.heap.size X q
structure GAll (X : World) (k : Nat) (x : Nat → Value) (q : World) : Prop where
  b : Below X.heap.size X q
  lt : ∀ b, x k = .pointer (some ⟨b, 0, none⟩) → b < q.heap.size
theorem GAll.to {X q : World} {k : Nat} {x y : Nat → Value} (h : GAll X k x q) (e : y k = x k := by rfl) : GAll X k y q := ⟨h.b, fun b hb => h.lt b (by rw [← e]; exact hb)⟩
theorem GAll.on {X q q1 : World} {k : Nat} {x y : Nat → Value} (h : GAll X k x q) (hb : Below q.heap.size q q1) (e : y k = x k := by rfl) : GAll X k y q1 := ⟨h.b.trans (hb.mono h.b.size), fun b h2 => Nat.lt_of_lt_of_le (h.lt b (by rw [← e]; exact h2)) hb.size⟩
def RAll (X : World) (z : Int) (s : ByteArray) (v : Value) (t : Ty) : Nat → (Nat → Value) → World → Prop
  | 0, x, _ => x 0 = .int .i64 z
  | 1, x, _ => x 1 = .string s
  | 2, x, _ => x 2 = v
  | 3, x, q => TyAt (fun b => X.heap.size ≤ b ∧ x 4 ≠ .pointer (some ⟨b, 0, none⟩)) q t (x 3)
  | 4, x, q => ∃ g, x 4 = .pointer (some ⟨g, 0, none⟩) ∧ X.heap.size ≤ g ∧ zBox q g
  | _, _, _ => True
theorem rall4 {X q q1 : World} {z : Int} {s : ByteArray} {v : Value} {t : Ty} {x y : Nat → Value} (hb : Below q.heap.size q q1) (h : RAll X z s v t 4 x q) (e : y 4 = x 4 := by rfl) : RAll X z s v t 4 y q1 := by
  obtain ⟨g, e1, e2, e3⟩ := h
  exact ⟨g, e.trans e1, e2, Box4.on e3 hb⟩
theorem rall3 {X q : World} {z : Int} {s : ByteArray} {v : Value} {t : Ty} {x : Nat → Value} {o : Obj} (h : RAll X z s v t 3 x q) : RAll X z s v t 3 (updV x 4 (.pointer (some ⟨q.heap.size, 0, none⟩))) (q.alloc o) := by
  have h8 : TyAt _ q t (x 3) := h
  exact (h8.bound.on (below_new q _)).mono (fun b hb1 => ⟨hb1.1.1, fun e => by
    have h9 : Value.pointer (some ⟨q.heap.size, 0, none⟩) = .pointer (some ⟨b, 0, none⟩) := e
    injection h9 with h9; injection h9 with h9; injection h9 with h9; exact absurd hb1.2 (by omega)⟩)
theorem GAll.new {X q : World} {k : Nat} {x y : Nat → Value} {o : Obj} (h : GAll X k x q) (e : y k = .pointer (some ⟨q.heap.size, 0, none⟩)) : GAll X k y (q.alloc o) := ⟨h.b.trans ((below_new q _).mono h.b.size), fun b hb => by
    rw [e] at hb
    injection hb with h9; injection h9 with h9; injection h9 with h9; subst h9; simp⟩
def FAll (X : World) (t : Ty) (x : Nat → Value) (q : World) : Prop := VarTy X t (x 4) q
set_option maxRecDepth 100000 in
set_option maxHeartbeats 1000000 in
theorem same_reg3 {V : World} {a : Ty} {f1 n1 z : Int} {s1 s : ByteArray} {A1 : Option Addr} {l1 c1 g1 : Nat} (HN : Hid (∀ q, Calls Tryd.prog 23 #[.int .i64 z] q fun e q1 => e = .returned (.string s) ∧ Below q.heap.size q q1)) (HQ : Hid (Box4 V g1 (.int .i64 f1) (.int .i64 n1) (.string s1) (.slice A1 l1 c1))) (HT : Hid (TyAt (fun _ => True) V a (.agg #[.int .i64 f1, .int .i64 n1, .string s1, .slice A1 l1 c1]))) {Q : Exit → Act → World → Prop} {ds : List Deferred} {r0 r1 r3 r4 r5 r6 r7 r8 r10 r12 r13 r14 r15 r16 r17 r18 r19 r20 r21 r22 r23 r24 r25 r26 r27 r28 r29 r30 r31 r32 r33 r34 r35 r36 r37 r38 r39 r40 r41 r42 r43 r44 r45 r46 r47 r48 r49 r50 r51 r52 r53 r54 r55 r56 r57 r58 r59 r60 r61 r62 r63 r64 r65 r66 r67 r68 r69 r70 r71 r72 r73 r74 : Value}
    (hf : ∀ (x0 x1 x2 x3 x4 : Value) (q : World), VarTy V (.all s a) x4 q → Q .normal ⟨#[r0, r1, .int .i64 z, r3, r4, r5, r6, r7, r8, .pointer (some ⟨g1, 0, none⟩), r10, x4, r12, r13, r14, r15, r16, r17, r18, r19, r20, x0, x1, x2, x3, r25, r26, r27, r28, r29, r30, r31, r32, r33, r34, r35, r36, r37, r38, r39, r40, r41, r42, r43, r44, r45, r46, r47, r48, r49, r50, r51, r52, r53, r54, r55, r56, r57, r58, r59, r60, r61, r62, r63, r64, r65, r66, r67, r68, r69, r70, r71, r72, r73, r74], ds⟩ q) :
    Code.wp Tryd.prog (Code.region 3 #[{ dst := some 21, op := Op.move (Operand.tmp 2), type := 3, pos := "law.go:71", after := #[], guard := none }, { dst := some 22, op := Op.call { callee := Callee.value (Operand.func 23), args := #[Operand.tmp 21], argTypes := #[3] }, type := 9, pos := "law.go:71", after := #[{ on := 0, ground := Ground.data }], guard := none }, { dst := some 23, op := Op.load 25 (Operand.tmp 9), type := 25, pos := "law.go:71", after := #[], guard := none }, { dst := some 24, op := Op.call { callee := Callee.value (Operand.func 22), args := #[Operand.tmp 22, Operand.tmp 23], argTypes := #[9, 25] }, type := 25, pos := "law.go:71", after := #[{ on := 1, ground := Ground.data }, { on := 2, ground := Ground.data }, { on := 1, ground := Ground.chain }], guard := none }, { dst := some 11, op := Op.alloc 25, type := 0, pos := "law.go:71", after := #[], guard := none }, { dst := none, op := Op.store 25 (Operand.tmp 11) (Operand.tmp 24), type := 0, pos := "law.go:71", after := #[{ on := 4, ground := Ground.data }, { on := 3, ground := Ground.data }, { on := 3, ground := Ground.chain }, { on := 0, ground := Ground.phase }, { on := 1, ground := Ground.phase }, { on := 2, ground := Ground.phase }, { on := 3, ground := Ground.phase }, { on := 4, ground := Ground.phase }], guard := none }] true) Q ⟨#[r0, r1, .int .i64 z, r3, r4, r5, r6, r7, r8, .pointer (some ⟨g1, 0, none⟩), r10, undef, r12, r13, r14, r15, r16, r17, r18, r19, r20, r21, r22, r23, r24, r25, r26, r27, r28, r29, r30, r31, r32, r33, r34, r35, r36, r37, r38, r39, r40, r41, r42, r43, r44, r45, r46, r47, r48, r49, r50, r51, r52, r53, r54, r55, r56, r57, r58, r59, r60, r61, r62, r63, r64, r65, r66, r67, r68, r69, r70, r71, r72, r73, r74], ds⟩ V := by
  refine wp_region_rel (m := 5) (o := ⟨none, _, _, _, _, _⟩) (D := [some 21, some 22, some 23, some 24, some 11, none]) (G := GAll V 4) (R := RAll V z s (.agg #[.int .i64 f1, .int .i64 n1, .string s1, .slice A1 l1 c1]) (.all s a)) (FAll V (.all s a)) V (by kernel_rfl) (by kernel_rfl) (by kernel_rfl) (by rfl) (by kernel_rfl) (by kernel_rfl) (by kernel_rfl) ?_ ?_ ?_ ?_
  · intro x hx
    have h4 := hx 4 11 rfl
    exact ⟨(Below.refl _ V).drew, fun b hb => by rw [h4] at hb; cases hb⟩
  · show StepsI _ _ _ _ _ _ _ _ [0, 1, 2, 3, 4]
    refine .cons (o := ⟨some 21, _, _, _, _, _⟩) (ds := []) (js := [2, 3, 4]) rfl (by kernel_rfl) (by kernel_rfl) ?_ ?_
    · intro x q hG hd K hK
      refine HidG.mk ?_
      simp only [putsA, Act.put, List.setIfInBounds_toArray, List.set_cons_zero, List.set_cons_succ, Nat.reduceAdd, Nat.zero_add] at hK ⊢
      go_simp
      refine hK _ _ hG.to (fun j hj h => ?_) rfl
      · simp only [List.mem_cons, List.not_mem_nil, or_false] at hj
        rcases hj with rfl | rfl | rfl
        · exact h
        · exact h
        · exact h
    refine .cons (o := ⟨some 22, _, _, _, _, _⟩) (ds := [0]) (js := [0, 2, 4]) rfl (by kernel_rfl) (by kernel_rfl) ?_ ?_
    · intro x q hG hd K hK
      have d0 : x 0 = .int .i64 z := hd 0 (by simp)
      refine HidG.mk ?_
      simp only [putsA, Act.put, List.setIfInBounds_toArray, List.set_cons_zero, List.set_cons_succ, Nat.reduceAdd, Nat.zero_add] at hK ⊢
      rw [d0] at hK ⊢
      go_simp
      (with_reducible refine (HN.out _).mono ?_)
      rintro e q1 ⟨rfl, hb⟩
      refine hK _ _ (hG.on hb) (fun j hj h => ?_) rfl
      · simp only [List.mem_cons, List.not_mem_nil, or_false] at hj
        rcases hj with rfl | rfl | rfl
        · exact h
        · exact h
        · exact rall4 hb h
    refine .cons (o := ⟨some 23, _, _, _, _, _⟩) (ds := []) (js := [0, 1, 4]) rfl (by kernel_rfl) (by kernel_rfl) ?_ ?_
    · intro x q hG hd K hK
      have hbx := HQ.out.on hG.b
      have k0 := hbx.2.1
      have k1 := hbx.2.2.1
      have k2 := hbx.2.2.2.1
      have k3 := hbx.2.2.2.2.1
      clear hbx
      refine HidG.mk ?_
      simp only [putsA, Act.put, List.setIfInBounds_toArray, List.set_cons_zero, List.set_cons_succ, Nat.reduceAdd, Nat.zero_add] at hK ⊢
      go_simp
      refine hK _ _ hG.to (fun j hj h => ?_) rfl
      · simp only [List.mem_cons, List.not_mem_nil, or_false] at hj
        rcases hj with rfl | rfl | rfl
        · exact h
        · exact h
        · exact h
    refine .cons (o := ⟨some 24, _, _, _, _, _⟩) (ds := [1, 2, 1]) (js := [0, 1, 2, 4]) rfl (by kernel_rfl) (by kernel_rfl) ?_ ?_
    · intro x q hG hd K hK
      have d1 : x 1 = .string s := hd 1 (by simp)
      have d2 : x 2 = .agg #[.int .i64 f1, .int .i64 n1, .string s1, .slice A1 l1 c1] := hd 2 (by simp)
      refine HidG.mk ?_
      simp only [putsA, Act.put, List.setIfInBounds_toArray, List.set_cons_zero, List.set_cons_succ, Nat.reduceAdd, Nat.zero_add] at hK ⊢
      rw [d1, d2] at hK ⊢
      go_simp
      (with_reducible refine (all_any _ s a _ _ (HT.out.on hG.b)).mono ?_)
      rintro e q1 ⟨tv, rfl, ht, hb⟩
      refine hK _ _ (hG.on hb) (fun j hj h => ?_) (ht.mono (fun b hb1 => ⟨Nat.le_trans hG.b.size hb1, fun e => absurd (hG.lt b e) (Nat.not_lt.2 hb1)⟩))
      · simp only [List.mem_cons, List.not_mem_nil, or_false] at hj
        rcases hj with rfl | rfl | rfl | rfl
        · exact h
        · exact h
        · exact h
        · exact rall4 hb h
    refine .cons (o := ⟨some 11, _, _, _, _, _⟩) (ds := []) (js := [0, 1, 2, 3]) rfl (by kernel_rfl) (by kernel_rfl) ?_ .nil
    · intro x q hG hd K hK
      refine HidG.mk ?_
      simp only [putsA, Act.put, List.setIfInBounds_toArray, List.set_cons_zero, List.set_cons_succ, Nat.reduceAdd, Nat.zero_add] at hK ⊢
      go_simp
      refine hK _ _ (by exact hG.new rfl) (fun j hj h => ?_) (by exact ⟨_, rfl, hG.b.size, Box4.new q _ _ _ _ _⟩)
      · simp only [List.mem_cons, List.not_mem_nil, or_false] at hj
        rcases hj with rfl | rfl | rfl | rfl
        · exact h
        · exact h
        · exact h
        · exact rall3 h
  · intro x q hG hd K hK
    have d3 : TyAt (fun b => V.heap.size ≤ b ∧ x 4 ≠ .pointer (some ⟨b, 0, none⟩)) q (.all s a) (x 3) := hd 3 (by omega)
    have d4 : ∃ g, x 4 = .pointer (some ⟨g, 0, none⟩) ∧ V.heap.size ≤ g ∧ zBox q g := hd 4 (by omega)
    obtain ⟨g, d4, d5, d6⟩ := d4
    obtain ⟨f, m, u, A, l, c, d7⟩ := d3.flat
    rw [d7] at d3
    have d8 := d6
    obtain ⟨e0, e1, e2, e3, e4, e5, e6, e7, e8⟩ := d8
    refine HidG.mk ?_
    simp only [putsA, Act.put, List.setIfInBounds_toArray, List.set_cons_zero, List.set_cons_succ, Nat.reduceAdd, Nat.zero_add] at hK ⊢
    rw [d4, d7] at hK ⊢
    go_simp
    refine hK undef _ ⟨g, f, m, u, A, l, c, d4, Box4.put d6 _ _ _ _, (d3.keep (.box (fun h => h.2 d4) _ _ _ _)).all, below_box hG.b d5 _ _ _ _⟩
  · intro x q hF
    simp only [putsA, Act.put, List.setIfInBounds_toArray, List.set_cons_zero, List.set_cons_succ, Nat.reduceAdd, Nat.zero_add]
    exact hf (x 0) (x 1) (x 2) (x 3) (x 4) q hF
set_option maxRecDepth 100000 in
set_option maxHeartbeats 1000000 in
theorem same_reg4 {V : World} {a : Ty} {f1 n1 z : Int} {s1 s : ByteArray} {A1 : Option Addr} {l1 c1 g1 : Nat} (HN : Hid (∀ q, Calls Tryd.prog 23 #[.int .i64 z] q fun e q1 => e = .returned (.string s) ∧ Below q.heap.size q q1)) (HQ : Hid (Box4 V g1 (.int .i64 f1) (.int .i64 n1) (.string s1) (.slice A1 l1 c1))) (HT : Hid (TyAt (fun _ => True) V a (.agg #[.int .i64 f1, .int .i64 n1, .string s1, .slice A1 l1 c1]))) {Q : Exit → Act → World → Prop} {ds : List Deferred} {r0 r1 r2 r4 r5 r6 r7 r8 r10 r11 r13 r14 r15 r16 r17 r18 r19 r20 r21 r22 r23 r24 r25 r26 r27 r28 r29 r30 r31 r32 r33 r34 r35 r36 r37 r38 r39 r40 r41 r42 r43 r44 r45 r46 r47 r48 r49 r50 r51 r52 r53 r54 r55 r56 r57 r58 r59 r60 r61 r62 r63 r64 r65 r66 r67 r68 r69 r70 r71 r72 r73 r74 : Value}
    (hf : ∀ (x0 x1 x2 x3 x4 : Value) (q : World), VarTy V (.all s a) x4 q → Q .normal ⟨#[r0, r1, r2, .int .i64 z, r4, r5, r6, r7, r8, .pointer (some ⟨g1, 0, none⟩), r10, r11, x4, r13, r14, r15, r16, r17, r18, r19, r20, r21, r22, r23, r24, x0, x1, x2, x3, r29, r30, r31, r32, r33, r34, r35, r36, r37, r38, r39, r40, r41, r42, r43, r44, r45, r46, r47, r48, r49, r50, r51, r52, r53, r54, r55, r56, r57, r58, r59, r60, r61, r62, r63, r64, r65, r66, r67, r68, r69, r70, r71, r72, r73, r74], ds⟩ q) :
    Code.wp Tryd.prog (Code.region 4 #[{ dst := some 25, op := Op.move (Operand.tmp 3), type := 3, pos := "law.go:72", after := #[], guard := none }, { dst := some 26, op := Op.call { callee := Callee.value (Operand.func 23), args := #[Operand.tmp 25], argTypes := #[3] }, type := 9, pos := "law.go:72", after := #[{ on := 0, ground := Ground.data }], guard := none }, { dst := some 27, op := Op.load 25 (Operand.tmp 9), type := 25, pos := "law.go:72", after := #[], guard := none }, { dst := some 28, op := Op.call { callee := Callee.value (Operand.func 22), args := #[Operand.tmp 26, Operand.tmp 27], argTypes := #[9, 25] }, type := 25, pos := "law.go:72", after := #[{ on := 1, ground := Ground.data }, { on := 2, ground := Ground.data }, { on := 1, ground := Ground.chain }], guard := none }, { dst := some 12, op := Op.alloc 25, type := 0, pos := "law.go:72", after := #[], guard := none }, { dst := none, op := Op.store 25 (Operand.tmp 12) (Operand.tmp 28), type := 0, pos := "law.go:72", after := #[{ on := 4, ground := Ground.data }, { on := 3, ground := Ground.data }, { on := 3, ground := Ground.chain }, { on := 0, ground := Ground.phase }, { on := 1, ground := Ground.phase }, { on := 2, ground := Ground.phase }, { on := 3, ground := Ground.phase }, { on := 4, ground := Ground.phase }], guard := none }] true) Q ⟨#[r0, r1, r2, .int .i64 z, r4, r5, r6, r7, r8, .pointer (some ⟨g1, 0, none⟩), r10, r11, undef, r13, r14, r15, r16, r17, r18, r19, r20, r21, r22, r23, r24, r25, r26, r27, r28, r29, r30, r31, r32, r33, r34, r35, r36, r37, r38, r39, r40, r41, r42, r43, r44, r45, r46, r47, r48, r49, r50, r51, r52, r53, r54, r55, r56, r57, r58, r59, r60, r61, r62, r63, r64, r65, r66, r67, r68, r69, r70, r71, r72, r73, r74], ds⟩ V := by
  refine wp_region_rel (m := 5) (o := ⟨none, _, _, _, _, _⟩) (D := [some 25, some 26, some 27, some 28, some 12, none]) (G := GAll V 4) (R := RAll V z s (.agg #[.int .i64 f1, .int .i64 n1, .string s1, .slice A1 l1 c1]) (.all s a)) (FAll V (.all s a)) V (by kernel_rfl) (by kernel_rfl) (by kernel_rfl) (by rfl) (by kernel_rfl) (by kernel_rfl) (by kernel_rfl) ?_ ?_ ?_ ?_
  · intro x hx
    have h4 := hx 4 12 rfl
    exact ⟨(Below.refl _ V).drew, fun b hb => by rw [h4] at hb; cases hb⟩
  · show StepsI _ _ _ _ _ _ _ _ [0, 1, 2, 3, 4]
    refine .cons (o := ⟨some 25, _, _, _, _, _⟩) (ds := []) (js := [2, 3, 4]) rfl (by kernel_rfl) (by kernel_rfl) ?_ ?_
    · intro x q hG hd K hK
      refine HidG.mk ?_
      simp only [putsA, Act.put, List.setIfInBounds_toArray, List.set_cons_zero, List.set_cons_succ, Nat.reduceAdd, Nat.zero_add] at hK ⊢
      go_simp
      refine hK _ _ hG.to (fun j hj h => ?_) rfl
      · simp only [List.mem_cons, List.not_mem_nil, or_false] at hj
        rcases hj with rfl | rfl | rfl
        · exact h
        · exact h
        · exact h
    refine .cons (o := ⟨some 26, _, _, _, _, _⟩) (ds := [0]) (js := [0, 2, 4]) rfl (by kernel_rfl) (by kernel_rfl) ?_ ?_
    · intro x q hG hd K hK
      have d0 : x 0 = .int .i64 z := hd 0 (by simp)
      refine HidG.mk ?_
      simp only [putsA, Act.put, List.setIfInBounds_toArray, List.set_cons_zero, List.set_cons_succ, Nat.reduceAdd, Nat.zero_add] at hK ⊢
      rw [d0] at hK ⊢
      go_simp
      (with_reducible refine (HN.out _).mono ?_)
      rintro e q1 ⟨rfl, hb⟩
      refine hK _ _ (hG.on hb) (fun j hj h => ?_) rfl
      · simp only [List.mem_cons, List.not_mem_nil, or_false] at hj
        rcases hj with rfl | rfl | rfl
        · exact h
        · exact h
        · exact rall4 hb h
    refine .cons (o := ⟨some 27, _, _, _, _, _⟩) (ds := []) (js := [0, 1, 4]) rfl (by kernel_rfl) (by kernel_rfl) ?_ ?_
    · intro x q hG hd K hK
      have hbx := HQ.out.on hG.b
      have k0 := hbx.2.1
      have k1 := hbx.2.2.1
      have k2 := hbx.2.2.2.1
      have k3 := hbx.2.2.2.2.1
      clear hbx
      refine HidG.mk ?_
      simp only [putsA, Act.put, List.setIfInBounds_toArray, List.set_cons_zero, List.set_cons_succ, Nat.reduceAdd, Nat.zero_add] at hK ⊢
      go_simp
      refine hK _ _ hG.to (fun j hj h => ?_) rfl
      · simp only [List.mem_cons, List.not_mem_nil, or_false] at hj
        rcases hj with rfl | rfl | rfl
        · exact h
        · exact h
        · exact h
    refine .cons (o := ⟨some 28, _, _, _, _, _⟩) (ds := [1, 2, 1]) (js := [0, 1, 2, 4]) rfl (by kernel_rfl) (by kernel_rfl) ?_ ?_
    · intro x q hG hd K hK
      have d1 : x 1 = .string s := hd 1 (by simp)
      have d2 : x 2 = .agg #[.int .i64 f1, .int .i64 n1, .string s1, .slice A1 l1 c1] := hd 2 (by simp)
      refine HidG.mk ?_
      simp only [putsA, Act.put, List.setIfInBounds_toArray, List.set_cons_zero, List.set_cons_succ, Nat.reduceAdd, Nat.zero_add] at hK ⊢
      rw [d1, d2] at hK ⊢
      go_simp
      (with_reducible refine (all_any _ s a _ _ (HT.out.on hG.b)).mono ?_)
      rintro e q1 ⟨tv, rfl, ht, hb⟩
      refine hK _ _ (hG.on hb) (fun j hj h => ?_) (ht.mono (fun b hb1 => ⟨Nat.le_trans hG.b.size hb1, fun e => absurd (hG.lt b e) (Nat.not_lt.2 hb1)⟩))
      · simp only [List.mem_cons, List.not_mem_nil, or_false] at hj
        rcases hj with rfl | rfl | rfl | rfl
        · exact h
        · exact h
        · exact h
        · exact rall4 hb h
    refine .cons (o := ⟨some 12, _, _, _, _, _⟩) (ds := []) (js := [0, 1, 2, 3]) rfl (by kernel_rfl) (by kernel_rfl) ?_ .nil
    · intro x q hG hd K hK
      refine HidG.mk ?_
      simp only [putsA, Act.put, List.setIfInBounds_toArray, List.set_cons_zero, List.set_cons_succ, Nat.reduceAdd, Nat.zero_add] at hK ⊢
      go_simp
      refine hK _ _ (by exact hG.new rfl) (fun j hj h => ?_) (by exact ⟨_, rfl, hG.b.size, Box4.new q _ _ _ _ _⟩)
      · simp only [List.mem_cons, List.not_mem_nil, or_false] at hj
        rcases hj with rfl | rfl | rfl | rfl
        · exact h
        · exact h
        · exact h
        · exact rall3 h
  · intro x q hG hd K hK
    have d3 : TyAt (fun b => V.heap.size ≤ b ∧ x 4 ≠ .pointer (some ⟨b, 0, none⟩)) q (.all s a) (x 3) := hd 3 (by omega)
    have d4 : ∃ g, x 4 = .pointer (some ⟨g, 0, none⟩) ∧ V.heap.size ≤ g ∧ zBox q g := hd 4 (by omega)
    obtain ⟨g, d4, d5, d6⟩ := d4
    obtain ⟨f, m, u, A, l, c, d7⟩ := d3.flat
    rw [d7] at d3
    have d8 := d6
    obtain ⟨e0, e1, e2, e3, e4, e5, e6, e7, e8⟩ := d8
    refine HidG.mk ?_
    simp only [putsA, Act.put, List.setIfInBounds_toArray, List.set_cons_zero, List.set_cons_succ, Nat.reduceAdd, Nat.zero_add] at hK ⊢
    rw [d4, d7] at hK ⊢
    go_simp
    refine hK undef _ ⟨g, f, m, u, A, l, c, d4, Box4.put d6 _ _ _ _, (d3.keep (.box (fun h => h.2 d4) _ _ _ _)).all, below_box hG.b d5 _ _ _ _⟩
  · intro x q hF
    simp only [putsA, Act.put, List.setIfInBounds_toArray, List.set_cons_zero, List.set_cons_succ, Nat.reduceAdd, Nat.zero_add]
    exact hf (x 0) (x 1) (x 2) (x 3) (x 4) q hF
theorem strs_one (q : World) (s : ByteArray) (t : TypeId) : StrsAt (fun _ => True) (q.alloc (.cells #[.string s] t)) (.slice (some ⟨q.heap.size, 0, none⟩) 1 1) [s] := by
  refine ⟨_, 1, rfl, Nat.le_refl _, by unfold maxLen; omega, .inr ⟨_, 0, rfl, trivial, by simp, fun i hi => ?_⟩⟩
  have : i = 0 := by simp at hi; omega
  subst this
  exact row_new rfl
theorem tys_one (q : World) (s : ByteArray) (t : TypeId) : TysAt (fun _ => True) (q.alloc (.cells #[.int .i64 2, .int .i64 0, .string s, .slice none 0 0] t)) [Ty.var s] (.slice (some ⟨q.heap.size, 0, none⟩) 1 1) :=
  TysAt.all (one_new (ty_leaf (fun _ => True) q (.var s) rfl none 0 (Nat.zero_le _)) t 1 (Nat.le_refl _) (by unfold maxLen; omega))
def RSub (X : World) (n k : Int) (sn sk : ByteArray) (v : Value) (a : Ty) : Nat → (Nat → Value) → World → Prop
  | 0, x, _ => x 0 = .int .i64 k
  | 1, x, _ => x 1 = .string sk
  | 2, x, _ => x 2 = v
  | 3, x, _ => x 3 = .int .i64 n
  | 4, x, _ => x 4 = .string sn
  | 5, x, q => StrsAt (fun _ => True) q (x 5) [sn]
  | 6, x, _ => x 6 = .int .i64 k
  | 7, x, _ => x 7 = .string sk
  | 8, x, _ => x 8 = .agg #[.int .i64 2, .int .i64 0, .string sk, .slice none 0 0]
  | 9, x, q => TysAt (fun _ => True) q [.var sk] (x 9)
  | 10, x, q => TyAt (fun _ => True) q (a.sub [(sn, .var sk)]) (x 10)
  | 11, x, q => TyAt (fun b => X.heap.size ≤ b ∧ x 12 ≠ .pointer (some ⟨b, 0, none⟩)) q (.all sk (a.sub [(sn, .var sk)])) (x 11)
  | 12, x, q => ∃ g, x 12 = .pointer (some ⟨g, 0, none⟩) ∧ X.heap.size ≤ g ∧ zBox q g
  | _, _, _ => True
theorem rsub_keep {X q q1 : World} {n k : Int} {sn sk : ByteArray} {v u : Value} {a : Ty} {x : Nat → Value} {i j : Nat} (hb : Below q.heap.size q q1) (hj : j ≠ i) (hi : i ≠ 12 ∨ j ≠ 11) (h : RSub X n k sn sk v a j x q) : RSub X n k sn sk v a j (updV x i u) q1 := by
  have e : ∀ l, l ≠ i → updV x i u l = x l := fun l hl => if_neg hl
  match j with
  | 0 => exact (e 0 hj).trans h
  | 1 => exact (e 1 hj).trans h
  | 2 => exact (e 2 hj).trans h
  | 3 => exact (e 3 hj).trans h
  | 4 => exact (e 4 hj).trans h
  | 5 => show StrsAt _ q1 (updV x i u 5) _; rw [e 5 hj]; exact StrsAt.on h hb
  | 6 => exact (e 6 hj).trans h
  | 7 => exact (e 7 hj).trans h
  | 8 => exact (e 8 hj).trans h
  | 9 => show TysAt _ q1 _ (updV x i u 9); rw [e 9 hj]; exact TysAt.on h hb
  | 10 => show TyAt _ q1 _ (updV x i u 10); rw [e 10 hj]; exact TyAt.on h hb
  | 11 =>
    show TyAt (fun b => X.heap.size ≤ b ∧ updV x i u 12 ≠ _) q1 _ (updV x i u 11)
    rw [e 11 hj, e 12 (fun e9 => (hi.resolve_right (fun h9 => h9 rfl)) e9.symm)]
    exact TyAt.on h hb
  | 12 =>
    obtain ⟨g, e1, e2, e3⟩ := h
    exact ⟨g, (e 12 hj).trans e1, e2, Box4.on e3 hb⟩
  | l + 13 => exact trivial
theorem rsub_new {X q : World} {n k : Int} {sn sk : ByteArray} {v : Value} {a : Ty} {x : Nat → Value} {o : Obj} (h : RSub X n k sn sk v a 11 x q) : RSub X n k sn sk v a 11 (updV x 12 (.pointer (some ⟨q.heap.size, 0, none⟩))) (q.alloc o) := by
  have h8 : TyAt _ q _ (x 11) := h
  exact (h8.bound.on (below_new q _)).mono (fun b hb1 => ⟨hb1.1.1, fun e => by
    have h9 : Value.pointer (some ⟨q.heap.size, 0, none⟩) = .pointer (some ⟨b, 0, none⟩) := e
    injection h9 with h9; injection h9 with h9; injection h9 with h9; exact absurd hb1.2 (by omega)⟩)
def FSub (X : World) (t : Ty) (x : Nat → Value) (q : World) : Prop := VarTy X t (x 12) q
set_option maxRecDepth 100000 in
set_option maxHeartbeats 1000000 in
theorem same_reg5 {V : World} {a : Ty} {f1 n1 n k : Int} {s1 sn sk : ByteArray} {A1 : Option Addr} {l1 c1 g1 : Nat} (hz : a.sz ≤ 8192) (HN : Hid (∀ q, Calls Tryd.prog 23 #[.int .i64 n] q fun e q1 => e = .returned (.string sn) ∧ Below q.heap.size q q1)) (HK : Hid (∀ q, Calls Tryd.prog 23 #[.int .i64 k] q fun e q1 => e = .returned (.string sk) ∧ Below q.heap.size q q1)) (HQ : Hid (Box4 V g1 (.int .i64 f1) (.int .i64 n1) (.string s1) (.slice A1 l1 c1))) (HT : Hid (TyAt (fun _ => True) V a (.agg #[.int .i64 f1, .int .i64 n1, .string s1, .slice A1 l1 c1]))) {Q : Exit → Act → World → Prop} {ds : List Deferred} {r0 r1 r4 r5 r6 r7 r8 r10 r11 r12 r14 r15 r16 r17 r18 r19 r20 r21 r22 r23 r24 r25 r26 r27 r28 r29 r30 r31 r32 r33 r34 r35 r36 r37 r38 r39 r40 r41 r42 r43 r44 r45 r46 r47 r48 r49 r50 r51 r52 r53 r54 r55 r56 r57 r58 r59 r60 r61 r62 r63 r64 r65 r66 r67 r68 r69 r70 r71 r72 r73 r74 : Value}
    (hf : ∀ (x0 x1 x2 x3 x4 x5 x6 x7 x8 x9 x10 x11 x12 : Value) (q : World), VarTy V (.all sk (a.sub [(sn, .var sk)])) x12 q → Q .normal ⟨#[r0, r1, .int .i64 n, .int .i64 k, r4, r5, r6, r7, r8, .pointer (some ⟨g1, 0, none⟩), r10, r11, r12, x12, r14, r15, r16, r17, r18, r19, r20, r21, r22, r23, r24, r25, r26, r27, r28, x0, x1, x2, x3, x4, x5, x6, x7, x8, x9, x10, x11, r41, r42, r43, r44, r45, r46, r47, r48, r49, r50, r51, r52, r53, r54, r55, r56, r57, r58, r59, r60, r61, r62, r63, r64, r65, r66, r67, r68, r69, r70, r71, r72, r73, r74], ds⟩ q) :
    Code.wp Tryd.prog (Code.region 5 #[{ dst := some 29, op := Op.move (Operand.tmp 3), type := 3, pos := "law.go:73", after := #[], guard := none }, { dst := some 30, op := Op.call { callee := Callee.value (Operand.func 23), args := #[Operand.tmp 29], argTypes := #[3] }, type := 9, pos := "law.go:73", after := #[{ on := 0, ground := Ground.data }], guard := none }, { dst := some 31, op := Op.load 25 (Operand.tmp 9), type := 25, pos := "law.go:73", after := #[], guard := none }, { dst := some 32, op := Op.move (Operand.tmp 2), type := 3, pos := "law.go:73", after := #[], guard := none }, { dst := some 33, op := Op.call { callee := Callee.value (Operand.func 23), args := #[Operand.tmp 32], argTypes := #[3] }, type := 9, pos := "law.go:73", after := #[{ on := 3, ground := Ground.data }, { on := 1, ground := Ground.chain }], guard := none }, { dst := some 34, op := Op.buildSlice 28 1 #[(0, Operand.tmp 33)], type := 28, pos := "law.go:73", after := #[{ on := 4, ground := Ground.data }], guard := none }, { dst := some 35, op := Op.move (Operand.tmp 3), type := 3, pos := "law.go:73", after := #[], guard := none }, { dst := some 36, op := Op.call { callee := Callee.value (Operand.func 23), args := #[Operand.tmp 35], argTypes := #[3] }, type := 9, pos := "law.go:73", after := #[{ on := 6, ground := Ground.data }, { on := 4, ground := Ground.chain }], guard := none }, { dst := some 37, op := Op.build 25 #[(0, Operand.const (Value.int IntKind.i64 2)), (2, Operand.tmp 36)], type := 25, pos := "law.go:73", after := #[{ on := 7, ground := Ground.data }], guard := none }, { dst := some 38, op := Op.buildSlice 23 1 #[(0, Operand.tmp 37)], type := 23, pos := "law.go:73", after := #[{ on := 8, ground := Ground.data }], guard := none }, { dst := some 39, op := Op.call { callee := Callee.value (Operand.func 24), args := #[Operand.tmp 31, Operand.tmp 34, Operand.tmp 38], argTypes := #[25, 28, 23] }, type := 25, pos := "law.go:73", after := #[{ on := 2, ground := Ground.data }, { on := 5, ground := Ground.data }, { on := 9, ground := Ground.data }, { on := 7, ground := Ground.chain }], guard := none }, { dst := some 40, op := Op.call { callee := Callee.value (Operand.func 22), args := #[Operand.tmp 30, Operand.tmp 39], argTypes := #[9, 25] }, type := 25, pos := "law.go:73", after := #[{ on := 1, ground := Ground.data }, { on := 10, ground := Ground.data }, { on := 10, ground := Ground.chain }], guard := none }, { dst := some 13, op := Op.alloc 25, type := 0, pos := "law.go:73", after := #[], guard := none }, { dst := none, op := Op.store 25 (Operand.tmp 13) (Operand.tmp 40), type := 0, pos := "law.go:73", after := #[{ on := 12, ground := Ground.data }, { on := 11, ground := Ground.data }, { on := 11, ground := Ground.chain }, { on := 0, ground := Ground.phase }, { on := 1, ground := Ground.phase }, { on := 2, ground := Ground.phase }, { on := 3, ground := Ground.phase }, { on := 4, ground := Ground.phase }, { on := 5, ground := Ground.phase }, { on := 6, ground := Ground.phase }, { on := 7, ground := Ground.phase }, { on := 8, ground := Ground.phase }, { on := 9, ground := Ground.phase }, { on := 10, ground := Ground.phase }, { on := 11, ground := Ground.phase }, { on := 12, ground := Ground.phase }], guard := none }] true) Q ⟨#[r0, r1, .int .i64 n, .int .i64 k, r4, r5, r6, r7, r8, .pointer (some ⟨g1, 0, none⟩), r10, r11, r12, undef, r14, r15, r16, r17, r18, r19, r20, r21, r22, r23, r24, r25, r26, r27, r28, r29, r30, r31, r32, r33, r34, r35, r36, r37, r38, r39, r40, r41, r42, r43, r44, r45, r46, r47, r48, r49, r50, r51, r52, r53, r54, r55, r56, r57, r58, r59, r60, r61, r62, r63, r64, r65, r66, r67, r68, r69, r70, r71, r72, r73, r74], ds⟩ V := by
  refine wp_region_rel (m := 13) (o := ⟨none, _, _, _, _, _⟩) (D := [some 29, some 30, some 31, some 32, some 33, some 34, some 35, some 36, some 37, some 38, some 39, some 40, some 13, none]) (G := GAll V 12) (R := RSub V n k sn sk (.agg #[.int .i64 f1, .int .i64 n1, .string s1, .slice A1 l1 c1]) a) (FSub V (.all sk (a.sub [(sn, .var sk)]))) V (by kernel_rfl) (by kernel_rfl) (by kernel_rfl) (by rfl) (by kernel_rfl) (by kernel_rfl) (by kernel_rfl) ?_ ?_ ?_ ?_
  · intro x hx
    have h4 := hx 12 13 rfl
    exact ⟨(Below.refl _ V).drew, fun b hb => by rw [h4] at hb; cases hb⟩
  · show StepsI _ _ _ _ _ _ _ _ [0, 1, 2, 3, 4, 5, 6, 7, 8, 9, 10, 11, 12]
    refine .cons (o := ⟨some 29, _, _, _, _, _⟩) (ds := []) (js := [2, 3, 4, 5, 6, 7, 8, 9, 10, 11, 12]) rfl (by kernel_rfl) (by kernel_rfl) ?_ ?_
    · intro x q hG hd K hK
      refine HidG.mk ?_
      simp only [putsA, Act.put, List.setIfInBounds_toArray, List.set_cons_zero, List.set_cons_succ, Nat.reduceAdd, Nat.zero_add] at hK ⊢
      go_simp
      refine hK _ _ hG.to (fun j hj h => ?_) rfl
      · simp only [List.mem_cons, List.not_mem_nil, or_false] at hj
        rcases hj with rfl | rfl | rfl | rfl | rfl | rfl | rfl | rfl | rfl | rfl | rfl
        · exact h
        · exact h
        · exact h
        · exact h
        · exact h
        · exact h
        · exact h
        · exact h
        · exact h
        · exact h
        · exact h
    refine .cons (o := ⟨some 30, _, _, _, _, _⟩) (ds := [0]) (js := [0, 2, 3, 5, 6, 7, 8, 9, 10, 12]) rfl (by kernel_rfl) (by kernel_rfl) ?_ ?_
    · intro x q hG hd K hK
      have d0 : x 0 = .int .i64 k := hd 0 (by simp)
      refine HidG.mk ?_
      simp only [putsA, Act.put, List.setIfInBounds_toArray, List.set_cons_zero, List.set_cons_succ, Nat.reduceAdd, Nat.zero_add] at hK ⊢
      rw [d0] at hK ⊢
      go_simp
      (with_reducible refine (HK.out _).mono ?_)
      rintro e q1 ⟨rfl, hb⟩
      refine hK _ _ (hG.on hb) (fun j hj h => ?_) rfl
      · simp only [List.mem_cons, List.not_mem_nil, or_false] at hj
        rcases hj with rfl | rfl | rfl | rfl | rfl | rfl | rfl | rfl | rfl | rfl
        · exact rsub_keep hb (by decide) (by decide) h
        · exact rsub_keep hb (by decide) (by decide) h
        · exact rsub_keep hb (by decide) (by decide) h
        · exact rsub_keep hb (by decide) (by decide) h
        · exact rsub_keep hb (by decide) (by decide) h
        · exact rsub_keep hb (by decide) (by decide) h
        · exact rsub_keep hb (by decide) (by decide) h
        · exact rsub_keep hb (by decide) (by decide) h
        · exact rsub_keep hb (by decide) (by decide) h
        · exact rsub_keep hb (by decide) (by decide) h
    refine .cons (o := ⟨some 31, _, _, _, _, _⟩) (ds := []) (js := [0, 1, 3, 4, 5, 6, 7, 8, 9, 11, 12]) rfl (by kernel_rfl) (by kernel_rfl) ?_ ?_
    · intro x q hG hd K hK
      have hbx := HQ.out.on hG.b
      have k0 := hbx.2.1
      have k1 := hbx.2.2.1
      have k2 := hbx.2.2.2.1
      have k3 := hbx.2.2.2.2.1
      clear hbx
      refine HidG.mk ?_
      simp only [putsA, Act.put, List.setIfInBounds_toArray, List.set_cons_zero, List.set_cons_succ, Nat.reduceAdd, Nat.zero_add] at hK ⊢
      go_simp
      refine hK _ _ hG.to (fun j hj h => ?_) rfl
      · simp only [List.mem_cons, List.not_mem_nil, or_false] at hj
        rcases hj with rfl | rfl | rfl | rfl | rfl | rfl | rfl | rfl | rfl | rfl | rfl
        · exact h
        · exact h
        · exact h
        · exact h
        · exact h
        · exact h
        · exact h
        · exact h
        · exact h
        · exact h
        · exact h
    refine .cons (o := ⟨some 32, _, _, _, _, _⟩) (ds := []) (js := [0, 1, 2, 5, 6, 7, 8, 9, 10, 11, 12]) rfl (by kernel_rfl) (by kernel_rfl) ?_ ?_
    · intro x q hG hd K hK
      refine HidG.mk ?_
      simp only [putsA, Act.put, List.setIfInBounds_toArray, List.set_cons_zero, List.set_cons_succ, Nat.reduceAdd, Nat.zero_add] at hK ⊢
      go_simp
      refine hK _ _ hG.to (fun j hj h => ?_) rfl
      · simp only [List.mem_cons, List.not_mem_nil, or_false] at hj
        rcases hj with rfl | rfl | rfl | rfl | rfl | rfl | rfl | rfl | rfl | rfl | rfl
        · exact h
        · exact h
        · exact h
        · exact h
        · exact h
        · exact h
        · exact h
        · exact h
        · exact h
        · exact h
        · exact h
    refine .cons (o := ⟨some 33, _, _, _, _, _⟩) (ds := [3, 1]) (js := [0, 1, 2, 3, 6, 8, 9, 10, 11, 12]) rfl (by kernel_rfl) (by kernel_rfl) ?_ ?_
    · intro x q hG hd K hK
      have d0 : x 3 = .int .i64 n := hd 3 (by simp)
      refine HidG.mk ?_
      simp only [putsA, Act.put, List.setIfInBounds_toArray, List.set_cons_zero, List.set_cons_succ, Nat.reduceAdd, Nat.zero_add] at hK ⊢
      rw [d0] at hK ⊢
      go_simp
      (with_reducible refine (HN.out _).mono ?_)
      rintro e q1 ⟨rfl, hb⟩
      refine hK _ _ (hG.on hb) (fun j hj h => ?_) rfl
      · simp only [List.mem_cons, List.not_mem_nil, or_false] at hj
        rcases hj with rfl | rfl | rfl | rfl | rfl | rfl | rfl | rfl | rfl | rfl
        · exact rsub_keep hb (by decide) (by decide) h
        · exact rsub_keep hb (by decide) (by decide) h
        · exact rsub_keep hb (by decide) (by decide) h
        · exact rsub_keep hb (by decide) (by decide) h
        · exact rsub_keep hb (by decide) (by decide) h
        · exact rsub_keep hb (by decide) (by decide) h
        · exact rsub_keep hb (by decide) (by decide) h
        · exact rsub_keep hb (by decide) (by decide) h
        · exact rsub_keep hb (by decide) (by decide) h
        · exact rsub_keep hb (by decide) (by decide) h
    refine .cons (o := ⟨some 34, _, _, _, _, _⟩) (ds := [4]) (js := [0, 1, 2, 3, 4, 6, 7, 8, 9, 11, 12]) rfl (by kernel_rfl) (by kernel_rfl) ?_ ?_
    · intro x q hG hd K hK
      have d0 : x 4 = .string sn := hd 4 (by simp)
      refine HidG.mk ?_
      simp only [putsA, Act.put, List.setIfInBounds_toArray, List.set_cons_zero, List.set_cons_succ, Nat.reduceAdd, Nat.zero_add] at hK ⊢
      rw [d0] at hK ⊢
      go_simp
      refine hK _ _ (hG.on (below_new q _)) (fun j hj h => ?_) (strs_one q sn _)
      · simp only [List.mem_cons, List.not_mem_nil, or_false] at hj
        rcases hj with rfl | rfl | rfl | rfl | rfl | rfl | rfl | rfl | rfl | rfl | rfl
        · exact rsub_keep (below_new q _) (by decide) (by decide) h
        · exact rsub_keep (below_new q _) (by decide) (by decide) h
        · exact rsub_keep (below_new q _) (by decide) (by decide) h
        · exact rsub_keep (below_new q _) (by decide) (by decide) h
        · exact rsub_keep (below_new q _) (by decide) (by decide) h
        · exact rsub_keep (below_new q _) (by decide) (by decide) h
        · exact rsub_keep (below_new q _) (by decide) (by decide) h
        · exact rsub_keep (below_new q _) (by decide) (by decide) h
        · exact rsub_keep (below_new q _) (by decide) (by decide) h
        · exact rsub_keep (below_new q _) (by decide) (by decide) h
        · exact rsub_keep (below_new q _) (by decide) (by decide) h
    refine .cons (o := ⟨some 35, _, _, _, _, _⟩) (ds := []) (js := [0, 1, 2, 3, 4, 5, 8, 9, 10, 11, 12]) rfl (by kernel_rfl) (by kernel_rfl) ?_ ?_
    · intro x q hG hd K hK
      refine HidG.mk ?_
      simp only [putsA, Act.put, List.setIfInBounds_toArray, List.set_cons_zero, List.set_cons_succ, Nat.reduceAdd, Nat.zero_add] at hK ⊢
      go_simp
      refine hK _ _ hG.to (fun j hj h => ?_) rfl
      · simp only [List.mem_cons, List.not_mem_nil, or_false] at hj
        rcases hj with rfl | rfl | rfl | rfl | rfl | rfl | rfl | rfl | rfl | rfl | rfl
        · exact h
        · exact h
        · exact h
        · exact h
        · exact h
        · exact h
        · exact h
        · exact h
        · exact h
        · exact h
        · exact h
    refine .cons (o := ⟨some 36, _, _, _, _, _⟩) (ds := [6, 4]) (js := [0, 1, 2, 3, 4, 5, 6, 9, 11, 12]) rfl (by kernel_rfl) (by kernel_rfl) ?_ ?_
    · intro x q hG hd K hK
      have d0 : x 6 = .int .i64 k := hd 6 (by simp)
      refine HidG.mk ?_
      simp only [putsA, Act.put, List.setIfInBounds_toArray, List.set_cons_zero, List.set_cons_succ, Nat.reduceAdd, Nat.zero_add] at hK ⊢
      rw [d0] at hK ⊢
      go_simp
      (with_reducible refine (HK.out _).mono ?_)
      rintro e q1 ⟨rfl, hb⟩
      refine hK _ _ (hG.on hb) (fun j hj h => ?_) rfl
      · simp only [List.mem_cons, List.not_mem_nil, or_false] at hj
        rcases hj with rfl | rfl | rfl | rfl | rfl | rfl | rfl | rfl | rfl | rfl
        · exact rsub_keep hb (by decide) (by decide) h
        · exact rsub_keep hb (by decide) (by decide) h
        · exact rsub_keep hb (by decide) (by decide) h
        · exact rsub_keep hb (by decide) (by decide) h
        · exact rsub_keep hb (by decide) (by decide) h
        · exact rsub_keep hb (by decide) (by decide) h
        · exact rsub_keep hb (by decide) (by decide) h
        · exact rsub_keep hb (by decide) (by decide) h
        · exact rsub_keep hb (by decide) (by decide) h
        · exact rsub_keep hb (by decide) (by decide) h
    refine .cons (o := ⟨some 37, _, _, _, _, _⟩) (ds := [7]) (js := [0, 1, 2, 3, 4, 5, 6, 7, 10, 11, 12]) rfl (by kernel_rfl) (by kernel_rfl) ?_ ?_
    · intro x q hG hd K hK
      have d0 : x 7 = .string sk := hd 7 (by simp)
      refine HidG.mk ?_
      simp only [putsA, Act.put, List.setIfInBounds_toArray, List.set_cons_zero, List.set_cons_succ, Nat.reduceAdd, Nat.zero_add] at hK ⊢
      rw [d0] at hK ⊢
      go_simp
      refine hK _ _ hG.to (fun j hj h => ?_) rfl
      · simp only [List.mem_cons, List.not_mem_nil, or_false] at hj
        rcases hj with rfl | rfl | rfl | rfl | rfl | rfl | rfl | rfl | rfl | rfl | rfl
        · exact h
        · exact h
        · exact h
        · exact h
        · exact h
        · exact h
        · exact h
        · exact h
        · exact h
        · exact h
        · exact h
    refine .cons (o := ⟨some 38, _, _, _, _, _⟩) (ds := [8]) (js := [0, 1, 2, 3, 4, 5, 6, 7, 8, 11, 12]) rfl (by kernel_rfl) (by kernel_rfl) ?_ ?_
    · intro x q hG hd K hK
      have d0 : x 8 = .agg #[.int .i64 2, .int .i64 0, .string sk, .slice none 0 0] := hd 8 (by simp)
      refine HidG.mk ?_
      simp only [putsA, Act.put, List.setIfInBounds_toArray, List.set_cons_zero, List.set_cons_succ, Nat.reduceAdd, Nat.zero_add] at hK ⊢
      rw [d0] at hK ⊢
      go_simp
      refine hK _ _ (hG.on (below_new q _)) (fun j hj h => ?_) (tys_one q sk _)
      · simp only [List.mem_cons, List.not_mem_nil, or_false] at hj
        rcases hj with rfl | rfl | rfl | rfl | rfl | rfl | rfl | rfl | rfl | rfl | rfl
        · exact rsub_keep (below_new q _) (by decide) (by decide) h
        · exact rsub_keep (below_new q _) (by decide) (by decide) h
        · exact rsub_keep (below_new q _) (by decide) (by decide) h
        · exact rsub_keep (below_new q _) (by decide) (by decide) h
        · exact rsub_keep (below_new q _) (by decide) (by decide) h
        · exact rsub_keep (below_new q _) (by decide) (by decide) h
        · exact rsub_keep (below_new q _) (by decide) (by decide) h
        · exact rsub_keep (below_new q _) (by decide) (by decide) h
        · exact rsub_keep (below_new q _) (by decide) (by decide) h
        · exact rsub_keep (below_new q _) (by decide) (by decide) h
        · exact rsub_keep (below_new q _) (by decide) (by decide) h
    refine .cons (o := ⟨some 39, _, _, _, _, _⟩) (ds := [2, 5, 9, 7]) (js := [0, 1, 2, 3, 4, 5, 6, 7, 8, 9, 12]) rfl (by kernel_rfl) (by kernel_rfl) ?_ ?_
    · intro x q hG hd K hK
      have d2 : x 2 = .agg #[.int .i64 f1, .int .i64 n1, .string s1, .slice A1 l1 c1] := hd 2 (by simp)
      have d5 : StrsAt (fun _ => True) q (x 5) [sn] := hd 5 (by simp)
      have d9 : TysAt (fun _ => True) q [.var sk] (x 9) := hd 9 (by simp)
      have hcall := refsub_any _ a [(sn, .var sk)] (.agg #[.int .i64 f1, .int .i64 n1, .string s1, .slice A1 l1 c1]) (x 5) (x 9) q (HT.out.on hG.b).bound' d5 (show TysAt (fun b => b < q.heap.size) q ([(sn, Ty.var sk)].map (·.2)) (x 9) from d9.bound') (fun p hp => by rw [List.mem_singleton] at hp; subst hp; show (Ty.var sk).sz ≤ 1048576; simp [Ty.sz]) (by rw [List.length_singleton]; omega)
      refine HidG.mk ?_
      simp only [putsA, Act.put, List.setIfInBounds_toArray, List.set_cons_zero, List.set_cons_succ, Nat.reduceAdd, Nat.zero_add] at hK ⊢
      rw [d2] at hK ⊢
      go_simp
      (with_reducible refine (hcall).mono ?_)
      rintro e q1 ⟨u, rfl, ht, hb⟩
      refine hK _ _ (hG.on hb) (fun j hj h => ?_) (TyAt.all ht)
      · simp only [List.mem_cons, List.not_mem_nil, or_false] at hj
        rcases hj with rfl | rfl | rfl | rfl | rfl | rfl | rfl | rfl | rfl | rfl | rfl
        · exact rsub_keep hb (by decide) (by decide) h
        · exact rsub_keep hb (by decide) (by decide) h
        · exact rsub_keep hb (by decide) (by decide) h
        · exact rsub_keep hb (by decide) (by decide) h
        · exact rsub_keep hb (by decide) (by decide) h
        · exact rsub_keep hb (by decide) (by decide) h
        · exact rsub_keep hb (by decide) (by decide) h
        · exact rsub_keep hb (by decide) (by decide) h
        · exact rsub_keep hb (by decide) (by decide) h
        · exact rsub_keep hb (by decide) (by decide) h
        · exact rsub_keep hb (by decide) (by decide) h
    refine .cons (o := ⟨some 40, _, _, _, _, _⟩) (ds := [1, 10, 10]) (js := [0, 1, 2, 3, 4, 5, 6, 7, 8, 9, 10, 12]) rfl (by kernel_rfl) (by kernel_rfl) ?_ ?_
    · intro x q hG hd K hK
      have d1 : x 1 = .string sk := hd 1 (by simp)
      have d10 : TyAt (fun _ => True) q (a.sub [(sn, .var sk)]) (x 10) := hd 10 (by simp)
      refine HidG.mk ?_
      simp only [putsA, Act.put, List.setIfInBounds_toArray, List.set_cons_zero, List.set_cons_succ, Nat.reduceAdd, Nat.zero_add] at hK ⊢
      rw [d1] at hK ⊢
      go_simp
      (with_reducible refine (all_any _ sk (a.sub [(sn, .var sk)]) _ _ d10).mono ?_)
      rintro e q1 ⟨tv, rfl, ht, hb⟩
      refine hK _ _ (hG.on hb) (fun j hj h => ?_) (ht.mono (fun b hb1 => ⟨Nat.le_trans hG.b.size hb1, fun e => absurd (hG.lt b e) (Nat.not_lt.2 hb1)⟩))
      · simp only [List.mem_cons, List.not_mem_nil, or_false] at hj
        rcases hj with rfl | rfl | rfl | rfl | rfl | rfl | rfl | rfl | rfl | rfl | rfl | rfl
        · exact rsub_keep hb (by decide) (by decide) h
        · exact rsub_keep hb (by decide) (by decide) h
        · exact rsub_keep hb (by decide) (by decide) h
        · exact rsub_keep hb (by decide) (by decide) h
        · exact rsub_keep hb (by decide) (by decide) h
        · exact rsub_keep hb (by decide) (by decide) h
        · exact rsub_keep hb (by decide) (by decide) h
        · exact rsub_keep hb (by decide) (by decide) h
        · exact rsub_keep hb (by decide) (by decide) h
        · exact rsub_keep hb (by decide) (by decide) h
        · exact rsub_keep hb (by decide) (by decide) h
        · exact rsub_keep hb (by decide) (by decide) h
    refine .cons (o := ⟨some 13, _, _, _, _, _⟩) (ds := []) (js := [0, 1, 2, 3, 4, 5, 6, 7, 8, 9, 10, 11]) rfl (by kernel_rfl) (by kernel_rfl) ?_ .nil
    · intro x q hG hd K hK
      refine HidG.mk ?_
      simp only [putsA, Act.put, List.setIfInBounds_toArray, List.set_cons_zero, List.set_cons_succ, Nat.reduceAdd, Nat.zero_add] at hK ⊢
      go_simp
      refine hK _ _ (by exact hG.new rfl) (fun j hj h => ?_) (by exact ⟨_, rfl, hG.b.size, Box4.new q _ _ _ _ _⟩)
      · simp only [List.mem_cons, List.not_mem_nil, or_false] at hj
        rcases hj with rfl | rfl | rfl | rfl | rfl | rfl | rfl | rfl | rfl | rfl | rfl | rfl
        · exact rsub_keep (below_new q _) (by decide) (by decide) h
        · exact rsub_keep (below_new q _) (by decide) (by decide) h
        · exact rsub_keep (below_new q _) (by decide) (by decide) h
        · exact rsub_keep (below_new q _) (by decide) (by decide) h
        · exact rsub_keep (below_new q _) (by decide) (by decide) h
        · exact rsub_keep (below_new q _) (by decide) (by decide) h
        · exact rsub_keep (below_new q _) (by decide) (by decide) h
        · exact rsub_keep (below_new q _) (by decide) (by decide) h
        · exact rsub_keep (below_new q _) (by decide) (by decide) h
        · exact rsub_keep (below_new q _) (by decide) (by decide) h
        · exact rsub_keep (below_new q _) (by decide) (by decide) h
        · exact rsub_new h
  · intro x q hG hd K hK
    have d3 : TyAt (fun b => V.heap.size ≤ b ∧ x 12 ≠ .pointer (some ⟨b, 0, none⟩)) q (.all sk (a.sub [(sn, .var sk)])) (x 11) := hd 11 (by omega)
    have d4 : ∃ g, x 12 = .pointer (some ⟨g, 0, none⟩) ∧ V.heap.size ≤ g ∧ zBox q g := hd 12 (by omega)
    obtain ⟨g, d4, d5, d6⟩ := d4
    obtain ⟨f, m, u, A, l, c, d7⟩ := d3.flat
    rw [d7] at d3
    have d8 := d6
    obtain ⟨e0, e1, e2, e3, e4, e5, e6, e7, e8⟩ := d8
    refine HidG.mk ?_
    simp only [putsA, Act.put, List.setIfInBounds_toArray, List.set_cons_zero, List.set_cons_succ, Nat.reduceAdd, Nat.zero_add] at hK ⊢
    rw [d4, d7] at hK ⊢
    go_simp
    refine hK undef _ ⟨g, f, m, u, A, l, c, d4, Box4.put d6 _ _ _ _, (d3.keep (.box (fun h => h.2 d4) _ _ _ _)).all, below_box hG.b d5 _ _ _ _⟩
  · intro x q hF
    simp only [putsA, Act.put, List.setIfInBounds_toArray, List.set_cons_zero, List.set_cons_succ, Nat.reduceAdd, Nat.zero_add]
    exact hf (x 0) (x 1) (x 2) (x 3) (x 4) (x 5) (x 6) (x 7) (x 8) (x 9) (x 10) (x 11) (x 12) q hF
def GBel (X : World) (_ : Nat → Value) (q : World) : Prop := Below X.heap.size X q
def RAsk (b i j : Nat) (vi vj : Value) (r : Bool) : Nat → (Nat → Value) → World → Prop
  | 0, x, _ => x 0 = .slice (some ⟨b, 0, none⟩) 5 5
  | 1, x, _ => x 1 = .int .i64 i
  | 2, x, _ => x 2 = .pointer (some ⟨b, i * 4, none⟩)
  | 3, x, _ => x 3 = vi
  | 4, x, _ => x 4 = .slice (some ⟨b, 0, none⟩) 5 5
  | 5, x, _ => x 5 = .int .i64 j
  | 6, x, _ => x 6 = .pointer (some ⟨b, j * 4, none⟩)
  | 7, x, _ => x 7 = vj
  | 8, x, _ => x 8 = .bool r
  | 9, x, _ => x 9 = .slice (some ⟨b, 0, none⟩) 5 5
  | 10, x, _ => x 10 = .int .i64 i
  | 11, x, _ => x 11 = .pointer (some ⟨b, i * 4, none⟩)
  | 12, x, _ => x 12 = vi
  | 13, x, _ => x 13 = .slice (some ⟨b, 0, none⟩) 5 5
  | 14, x, _ => x 14 = .int .i64 j
  | 15, x, _ => x 15 = .pointer (some ⟨b, j * 4, none⟩)
  | 16, x, _ => x 16 = vj
  | 17, x, _ => x 17 = .bool r
  | _, _, _ => True
def FAsk (X : World) (x : Nat → Value) (q : World) : Prop := x 18 = .bool false ∧ Below X.heap.size X q
set_option maxRecDepth 100000 in
set_option maxHeartbeats 1000000 in
theorem same_reg13 {V : World} {f1 n1 f2 n2 : Int} {s1 s2 : ByteArray} {A1 A2 : Option Addr} {l1 c1 l2 c2 b i j : Nat} {r : Bool} (hi : i < 5) (hj : j < 5) (HI : Hid (∀ q, Below V.heap.size V q → (q.cell? ⟨b, i * 4, none⟩ = some (.int .i64 f1) ∧ q.cell? ⟨b, i * 4 + 1, none⟩ = some (.int .i64 n1) ∧ q.cell? ⟨b, i * 4 + 2, none⟩ = some (.string s1) ∧ q.cell? ⟨b, i * 4 + 3, none⟩ = some (.slice A1 l1 c1)))) (HJ : Hid (∀ q, Below V.heap.size V q → (q.cell? ⟨b, j * 4, none⟩ = some (.int .i64 f2) ∧ q.cell? ⟨b, j * 4 + 1, none⟩ = some (.int .i64 n2) ∧ q.cell? ⟨b, j * 4 + 2, none⟩ = some (.string s2) ∧ q.cell? ⟨b, j * 4 + 3, none⟩ = some (.slice A2 l2 c2)))) (HA : Hid (∀ q, Below V.heap.size V q → Calls Tryd.prog 25 #[.agg #[.int .i64 f1, .int .i64 n1, .string s1, .slice A1 l1 c1], .agg #[.int .i64 f2, .int .i64 n2, .string s2, .slice A2 l2 c2]] q fun e q1 => e = .returned (.bool r) ∧ Below q.heap.size q q1)) (HB : Hid (∀ q, Below V.heap.size V q → Calls Tryd.prog 26 #[.agg #[.int .i64 f1, .int .i64 n1, .string s1, .slice A1 l1 c1], .agg #[.int .i64 f2, .int .i64 n2, .string s2, .slice A2 l2 c2]] q fun e q1 => e = .returned (.bool r) ∧ Below q.heap.size q q1)) {Q : Exit → Act → World → Prop} {ds : List Deferred} {r0 r1 r2 r3 r4 r5 r6 r7 r8 r9 r10 r11 r12 r13 r17 r18 r19 r20 r21 r22 r23 r24 r25 r26 r27 r28 r29 r30 r31 r32 r33 r34 r35 r36 r37 r38 r39 r40 r41 r42 r43 r44 r45 r46 r47 r48 r49 r50 r51 r52 r53 r54 r55 r56 r57 r58 r59 r60 r61 r62 r63 r64 r65 r66 r67 r68 r69 r70 r71 r72 r73 r74 : Value}
    (hf : ∀ (x0 x1 x2 x3 x4 x5 x6 x7 x8 x9 x10 x11 x12 x13 x14 x15 x16 x17 : Value) (q : World), Below V.heap.size V q → Q .normal ⟨#[r0, r1, r2, r3, r4, r5, r6, r7, r8, r9, r10, r11, r12, r13, .slice (some ⟨b, 0, none⟩) 5 5, .int .i64 i, .int .i64 j, r17, r18, r19, r20, r21, r22, r23, r24, r25, r26, r27, r28, r29, r30, r31, r32, r33, r34, r35, r36, r37, r38, r39, r40, r41, r42, r43, r44, r45, r46, r47, r48, r49, r50, r51, r52, r53, r54, x0, x1, x2, x3, x4, x5, x6, x7, x8, x9, x10, x11, x12, x13, x14, x15, x16, x17, .bool false, r74], ds⟩ q) :
    Code.wp Tryd.prog (Code.region 13 #[{ dst := some 55, op := Op.move (Operand.tmp 14), type := 23, pos := "law.go:77", after := #[], guard := none }, { dst := some 56, op := Op.move (Operand.tmp 15), type := 3, pos := "law.go:77", after := #[], guard := none }, { dst := some 57, op := Op.indexAddr 23 (Operand.tmp 55) (Operand.tmp 56), type := 0, pos := "law.go:77", after := #[{ on := 0, ground := Ground.data }, { on := 1, ground := Ground.data }], guard := none }, { dst := some 58, op := Op.load 25 (Operand.tmp 57), type := 25, pos := "law.go:77", after := #[{ on := 2, ground := Ground.data }], guard := none }, { dst := some 59, op := Op.move (Operand.tmp 14), type := 23, pos := "law.go:77", after := #[], guard := none }, { dst := some 60, op := Op.move (Operand.tmp 16), type := 3, pos := "law.go:77", after := #[], guard := none }, { dst := some 61, op := Op.indexAddr 23 (Operand.tmp 59) (Operand.tmp 60), type := 0, pos := "law.go:77", after := #[{ on := 4, ground := Ground.data }, { on := 5, ground := Ground.data }], guard := none }, { dst := some 62, op := Op.load 25 (Operand.tmp 61), type := 25, pos := "law.go:77", after := #[{ on := 6, ground := Ground.data }], guard := none }, { dst := some 63, op := Op.call { callee := Callee.value (Operand.func 25), args := #[Operand.tmp 58, Operand.tmp 62], argTypes := #[25, 25] }, type := 4, pos := "law.go:77", after := #[{ on := 3, ground := Ground.data }, { on := 7, ground := Ground.data }], guard := none }, { dst := some 64, op := Op.move (Operand.tmp 14), type := 23, pos := "law.go:77", after := #[], guard := none }, { dst := some 65, op := Op.move (Operand.tmp 15), type := 3, pos := "law.go:77", after := #[], guard := none }, { dst := some 66, op := Op.indexAddr 23 (Operand.tmp 64) (Operand.tmp 65), type := 0, pos := "law.go:77", after := #[{ on := 9, ground := Ground.data }, { on := 10, ground := Ground.data }], guard := none }, { dst := some 67, op := Op.load 25 (Operand.tmp 66), type := 25, pos := "law.go:77", after := #[{ on := 11, ground := Ground.data }], guard := none }, { dst := some 68, op := Op.move (Operand.tmp 14), type := 23, pos := "law.go:77", after := #[], guard := none }, { dst := some 69, op := Op.move (Operand.tmp 16), type := 3, pos := "law.go:77", after := #[], guard := none }, { dst := some 70, op := Op.indexAddr 23 (Operand.tmp 68) (Operand.tmp 69), type := 0, pos := "law.go:77", after := #[{ on := 13, ground := Ground.data }, { on := 14, ground := Ground.data }], guard := none }, { dst := some 71, op := Op.load 25 (Operand.tmp 70), type := 25, pos := "law.go:77", after := #[{ on := 15, ground := Ground.data }], guard := none }, { dst := some 72, op := Op.call { callee := Callee.value (Operand.func 26), args := #[Operand.tmp 67, Operand.tmp 71], argTypes := #[25, 25] }, type := 4, pos := "law.go:77", after := #[{ on := 12, ground := Ground.data }, { on := 16, ground := Ground.data }, { on := 8, ground := Ground.chain }], guard := none }, { dst := some 73, op := Op.binOp BinOp.neq 4 (Operand.tmp 63) (Operand.tmp 72) 4, type := 4, pos := "law.go:77", after := #[{ on := 8, ground := Ground.data }, { on := 17, ground := Ground.data }], guard := none }] true) Q ⟨#[r0, r1, r2, r3, r4, r5, r6, r7, r8, r9, r10, r11, r12, r13, .slice (some ⟨b, 0, none⟩) 5 5, .int .i64 i, .int .i64 j, r17, r18, r19, r20, r21, r22, r23, r24, r25, r26, r27, r28, r29, r30, r31, r32, r33, r34, r35, r36, r37, r38, r39, r40, r41, r42, r43, r44, r45, r46, r47, r48, r49, r50, r51, r52, r53, r54, r55, r56, r57, r58, r59, r60, r61, r62, r63, r64, r65, r66, r67, r68, r69, r70, r71, r72, r73, r74], ds⟩ V := by
  refine wp_region_rel (m := 18) (o := ⟨some 73, _, _, _, _, _⟩) (D := [some 55, some 56, some 57, some 58, some 59, some 60, some 61, some 62, some 63, some 64, some 65, some 66, some 67, some 68, some 69, some 70, some 71, some 72, some 73]) (G := GBel V) (R := RAsk b i j (.agg #[.int .i64 f1, .int .i64 n1, .string s1, .slice A1 l1 c1]) (.agg #[.int .i64 f2, .int .i64 n2, .string s2, .slice A2 l2 c2]) r) (FAsk V) V (by kernel_rfl) (by kernel_rfl) (by kernel_rfl) (by rfl) (by kernel_rfl) (by kernel_rfl) (by kernel_rfl) ?_ ?_ ?_ ?_
  · intro x hx
    exact (Below.refl _ V).drew
  · show StepsI _ _ _ _ _ _ _ _ [0, 1, 2, 3, 4, 5, 6, 7, 8, 9, 10, 11, 12, 13, 14, 15, 16, 17]
    refine .cons (o := ⟨some 55, _, _, _, _, _⟩) (ds := []) (js := [1, 3, 4, 5, 6, 7, 8, 9, 10, 11, 12, 13, 14, 15, 16, 17]) rfl (by kernel_rfl) (by kernel_rfl) ?_ ?_
    · intro x q hG hd K hK
      refine HidG.mk ?_
      simp only [putsA, Act.put, List.setIfInBounds_toArray, List.set_cons_zero, List.set_cons_succ, Nat.reduceAdd, Nat.zero_add] at hK ⊢
      go_simp
      refine hK _ _ hG (fun j hj h => ?_) rfl
      · simp only [List.mem_cons, List.not_mem_nil, or_false] at hj
        rcases hj with rfl | rfl | rfl | rfl | rfl | rfl | rfl | rfl | rfl | rfl | rfl | rfl | rfl | rfl | rfl | rfl
        · exact h
        · exact h
        · exact h
        · exact h
        · exact h
        · exact h
        · exact h
        · exact h
        · exact h
        · exact h
        · exact h
        · exact h
        · exact h
        · exact h
        · exact h
        · exact h
    refine .cons (o := ⟨some 56, _, _, _, _, _⟩) (ds := []) (js := [0, 3, 4, 5, 6, 7, 8, 9, 10, 11, 12, 13, 14, 15, 16, 17]) rfl (by kernel_rfl) (by kernel_rfl) ?_ ?_
    · intro x q hG hd K hK
      refine HidG.mk ?_
      simp only [putsA, Act.put, List.setIfInBounds_toArray, List.set_cons_zero, List.set_cons_succ, Nat.reduceAdd, Nat.zero_add] at hK ⊢
      go_simp
      refine hK _ _ hG (fun j hj h => ?_) rfl
      · simp only [List.mem_cons, List.not_mem_nil, or_false] at hj
        rcases hj with rfl | rfl | rfl | rfl | rfl | rfl | rfl | rfl | rfl | rfl | rfl | rfl | rfl | rfl | rfl | rfl
        · exact h
        · exact h
        · exact h
        · exact h
        · exact h
        · exact h
        · exact h
        · exact h
        · exact h
        · exact h
        · exact h
        · exact h
        · exact h
        · exact h
        · exact h
        · exact h
    refine .cons (o := ⟨some 57, _, _, _, _, _⟩) (ds := [0, 1]) (js := [0, 1, 4, 5, 6, 7, 8, 9, 10, 11, 12, 13, 14, 15, 16, 17]) rfl (by kernel_rfl) (by kernel_rfl) ?_ ?_
    · intro x q hG hd K hK
      have d0 : x 0 = .slice (some ⟨b, 0, none⟩) 5 5 := hd 0 (by simp)
      have d1 : x 1 = .int .i64 i := hd 1 (by simp)
      have k0 : (0 : Int) ≤ (i : Int) := by omega
      have k1 : (i : Int) < 5 := by omega
      refine HidG.mk ?_
      simp only [putsA, Act.put, List.setIfInBounds_toArray, List.set_cons_zero, List.set_cons_succ, Nat.reduceAdd, Nat.zero_add] at hK ⊢
      rw [d0, d1] at hK ⊢
      go_simp
      refine hK _ _ hG (fun j hj h => ?_) rfl
      · simp only [List.mem_cons, List.not_mem_nil, or_false] at hj
        rcases hj with rfl | rfl | rfl | rfl | rfl | rfl | rfl | rfl | rfl | rfl | rfl | rfl | rfl | rfl | rfl | rfl
        · exact h
        · exact h
        · exact h
        · exact h
        · exact h
        · exact h
        · exact h
        · exact h
        · exact h
        · exact h
        · exact h
        · exact h
        · exact h
        · exact h
        · exact h
        · exact h
    refine .cons (o := ⟨some 58, _, _, _, _, _⟩) (ds := [2]) (js := [0, 1, 2, 4, 5, 6, 7, 9, 10, 11, 12, 13, 14, 15, 16, 17]) rfl (by kernel_rfl) (by kernel_rfl) ?_ ?_
    · intro x q hG hd K hK
      have d0 : x 2 = .pointer (some ⟨b, i * 4, none⟩) := hd 2 (by simp)
      have hbx := HI.out q hG
      have k0 := hbx.1
      have k1 := hbx.2.1
      have k2 := hbx.2.2.1
      have k3 := hbx.2.2.2
      clear hbx
      refine HidG.mk ?_
      simp only [putsA, Act.put, List.setIfInBounds_toArray, List.set_cons_zero, List.set_cons_succ, Nat.reduceAdd, Nat.zero_add] at hK ⊢
      rw [d0] at hK ⊢
      go_simp
      refine hK _ _ hG (fun j hj h => ?_) rfl
      · simp only [List.mem_cons, List.not_mem_nil, or_false] at hj
        rcases hj with rfl | rfl | rfl | rfl | rfl | rfl | rfl | rfl | rfl | rfl | rfl | rfl | rfl | rfl | rfl | rfl
        · exact h
        · exact h
        · exact h
        · exact h
        · exact h
        · exact h
        · exact h
        · exact h
        · exact h
        · exact h
        · exact h
        · exact h
        · exact h
        · exact h
        · exact h
        · exact h
    refine .cons (o := ⟨some 59, _, _, _, _, _⟩) (ds := []) (js := [0, 1, 2, 3, 5, 7, 8, 9, 10, 11, 12, 13, 14, 15, 16, 17]) rfl (by kernel_rfl) (by kernel_rfl) ?_ ?_
    · intro x q hG hd K hK
      refine HidG.mk ?_
      simp only [putsA, Act.put, List.setIfInBounds_toArray, List.set_cons_zero, List.set_cons_succ, Nat.reduceAdd, Nat.zero_add] at hK ⊢
      go_simp
      refine hK _ _ hG (fun j hj h => ?_) rfl
      · simp only [List.mem_cons, List.not_mem_nil, or_false] at hj
        rcases hj with rfl | rfl | rfl | rfl | rfl | rfl | rfl | rfl | rfl | rfl | rfl | rfl | rfl | rfl | rfl | rfl
        · exact h
        · exact h
        · exact h
        · exact h
        · exact h
        · exact h
        · exact h
        · exact h
        · exact h
        · exact h
        · exact h
        · exact h
        · exact h
        · exact h
        · exact h
        · exact h
    refine .cons (o := ⟨some 60, _, _, _, _, _⟩) (ds := []) (js := [0, 1, 2, 3, 4, 7, 8, 9, 10, 11, 12, 13, 14, 15, 16, 17]) rfl (by kernel_rfl) (by kernel_rfl) ?_ ?_
    · intro x q hG hd K hK
      refine HidG.mk ?_
      simp only [putsA, Act.put, List.setIfInBounds_toArray, List.set_cons_zero, List.set_cons_succ, Nat.reduceAdd, Nat.zero_add] at hK ⊢
      go_simp
      refine hK _ _ hG (fun j hj h => ?_) rfl
      · simp only [List.mem_cons, List.not_mem_nil, or_false] at hj
        rcases hj with rfl | rfl | rfl | rfl | rfl | rfl | rfl | rfl | rfl | rfl | rfl | rfl | rfl | rfl | rfl | rfl
        · exact h
        · exact h
        · exact h
        · exact h
        · exact h
        · exact h
        · exact h
        · exact h
        · exact h
        · exact h
        · exact h
        · exact h
        · exact h
        · exact h
        · exact h
        · exact h
    refine .cons (o := ⟨some 61, _, _, _, _, _⟩) (ds := [4, 5]) (js := [0, 1, 2, 3, 4, 5, 8, 9, 10, 11, 12, 13, 14, 15, 16, 17]) rfl (by kernel_rfl) (by kernel_rfl) ?_ ?_
    · intro x q hG hd K hK
      have d0 : x 4 = .slice (some ⟨b, 0, none⟩) 5 5 := hd 4 (by simp)
      have d1 : x 5 = .int .i64 j := hd 5 (by simp)
      have k0 : (0 : Int) ≤ (j : Int) := by omega
      have k1 : (j : Int) < 5 := by omega
      refine HidG.mk ?_
      simp only [putsA, Act.put, List.setIfInBounds_toArray, List.set_cons_zero, List.set_cons_succ, Nat.reduceAdd, Nat.zero_add] at hK ⊢
      rw [d0, d1] at hK ⊢
      go_simp
      refine hK _ _ hG (fun j hj h => ?_) rfl
      · simp only [List.mem_cons, List.not_mem_nil, or_false] at hj
        rcases hj with rfl | rfl | rfl | rfl | rfl | rfl | rfl | rfl | rfl | rfl | rfl | rfl | rfl | rfl | rfl | rfl
        · exact h
        · exact h
        · exact h
        · exact h
        · exact h
        · exact h
        · exact h
        · exact h
        · exact h
        · exact h
        · exact h
        · exact h
        · exact h
        · exact h
        · exact h
        · exact h
    refine .cons (o := ⟨some 62, _, _, _, _, _⟩) (ds := [6]) (js := [0, 1, 2, 3, 4, 5, 6, 9, 10, 11, 12, 13, 14, 15, 16, 17]) rfl (by kernel_rfl) (by kernel_rfl) ?_ ?_
    · intro x q hG hd K hK
      have d0 : x 6 = .pointer (some ⟨b, j * 4, none⟩) := hd 6 (by simp)
      have hbx := HJ.out q hG
      have k0 := hbx.1
      have k1 := hbx.2.1
      have k2 := hbx.2.2.1
      have k3 := hbx.2.2.2
      clear hbx
      refine HidG.mk ?_
      simp only [putsA, Act.put, List.setIfInBounds_toArray, List.set_cons_zero, List.set_cons_succ, Nat.reduceAdd, Nat.zero_add] at hK ⊢
      rw [d0] at hK ⊢
      go_simp
      refine hK _ _ hG (fun j hj h => ?_) rfl
      · simp only [List.mem_cons, List.not_mem_nil, or_false] at hj
        rcases hj with rfl | rfl | rfl | rfl | rfl | rfl | rfl | rfl | rfl | rfl | rfl | rfl | rfl | rfl | rfl | rfl
        · exact h
        · exact h
        · exact h
        · exact h
        · exact h
        · exact h
        · exact h
        · exact h
        · exact h
        · exact h
        · exact h
        · exact h
        · exact h
        · exact h
        · exact h
        · exact h
    refine .cons (o := ⟨some 63, _, _, _, _, _⟩) (ds := [3, 7]) (js := [0, 1, 2, 3, 4, 5, 6, 7, 9, 10, 11, 12, 13, 14, 15, 16]) rfl (by kernel_rfl) (by kernel_rfl) ?_ ?_
    · intro x q hG hd K hK
      have d0 : x 3 = .agg #[.int .i64 f1, .int .i64 n1, .string s1, .slice A1 l1 c1] := hd 3 (by simp)
      have d1 : x 7 = .agg #[.int .i64 f2, .int .i64 n2, .string s2, .slice A2 l2 c2] := hd 7 (by simp)
      have hG2 : Below V.heap.size V q := hG
      refine HidG.mk ?_
      simp only [putsA, Act.put, List.setIfInBounds_toArray, List.set_cons_zero, List.set_cons_succ, Nat.reduceAdd, Nat.zero_add] at hK ⊢
      rw [d0, d1] at hK ⊢
      go_simp
      (with_reducible refine (HA.out _ hG2).mono ?_)
      rintro e q1 ⟨rfl, hb⟩
      refine hK _ _ (hG2.trans (hb.mono hG2.size)) (fun j hj h => ?_) rfl
      · simp only [List.mem_cons, List.not_mem_nil, or_false] at hj
        rcases hj with rfl | rfl | rfl | rfl | rfl | rfl | rfl | rfl | rfl | rfl | rfl | rfl | rfl | rfl | rfl | rfl
        · exact h
        · exact h
        · exact h
        · exact h
        · exact h
        · exact h
        · exact h
        · exact h
        · exact h
        · exact h
        · exact h
        · exact h
        · exact h
        · exact h
        · exact h
        · exact h
    refine .cons (o := ⟨some 64, _, _, _, _, _⟩) (ds := []) (js := [0, 1, 2, 3, 4, 5, 6, 7, 8, 10, 12, 13, 14, 15, 16, 17]) rfl (by kernel_rfl) (by kernel_rfl) ?_ ?_
    · intro x q hG hd K hK
      refine HidG.mk ?_
      simp only [putsA, Act.put, List.setIfInBounds_toArray, List.set_cons_zero, List.set_cons_succ, Nat.reduceAdd, Nat.zero_add] at hK ⊢
      go_simp
      refine hK _ _ hG (fun j hj h => ?_) rfl
      · simp only [List.mem_cons, List.not_mem_nil, or_false] at hj
        rcases hj with rfl | rfl | rfl | rfl | rfl | rfl | rfl | rfl | rfl | rfl | rfl | rfl | rfl | rfl | rfl | rfl
        · exact h
        · exact h
        · exact h
        · exact h
        · exact h
        · exact h
        · exact h
        · exact h
        · exact h
        · exact h
        · exact h
        · exact h
        · exact h
        · exact h
        · exact h
        · exact h
    refine .cons (o := ⟨some 65, _, _, _, _, _⟩) (ds := []) (js := [0, 1, 2, 3, 4, 5, 6, 7, 8, 9, 12, 13, 14, 15, 16, 17]) rfl (by kernel_rfl) (by kernel_rfl) ?_ ?_
    · intro x q hG hd K hK
      refine HidG.mk ?_
      simp only [putsA, Act.put, List.setIfInBounds_toArray, List.set_cons_zero, List.set_cons_succ, Nat.reduceAdd, Nat.zero_add] at hK ⊢
      go_simp
      refine hK _ _ hG (fun j hj h => ?_) rfl
      · simp only [List.mem_cons, List.not_mem_nil, or_false] at hj
        rcases hj with rfl | rfl | rfl | rfl | rfl | rfl | rfl | rfl | rfl | rfl | rfl | rfl | rfl | rfl | rfl | rfl
        · exact h
        · exact h
        · exact h
        · exact h
        · exact h
        · exact h
        · exact h
        · exact h
        · exact h
        · exact h
        · exact h
        · exact h
        · exact h
        · exact h
        · exact h
        · exact h
    refine .cons (o := ⟨some 66, _, _, _, _, _⟩) (ds := [9, 10]) (js := [0, 1, 2, 3, 4, 5, 6, 7, 8, 9, 10, 13, 14, 15, 16, 17]) rfl (by kernel_rfl) (by kernel_rfl) ?_ ?_
    · intro x q hG hd K hK
      have d0 : x 9 = .slice (some ⟨b, 0, none⟩) 5 5 := hd 9 (by simp)
      have d1 : x 10 = .int .i64 i := hd 10 (by simp)
      have k0 : (0 : Int) ≤ (i : Int) := by omega
      have k1 : (i : Int) < 5 := by omega
      refine HidG.mk ?_
      simp only [putsA, Act.put, List.setIfInBounds_toArray, List.set_cons_zero, List.set_cons_succ, Nat.reduceAdd, Nat.zero_add] at hK ⊢
      rw [d0, d1] at hK ⊢
      go_simp
      refine hK _ _ hG (fun j hj h => ?_) rfl
      · simp only [List.mem_cons, List.not_mem_nil, or_false] at hj
        rcases hj with rfl | rfl | rfl | rfl | rfl | rfl | rfl | rfl | rfl | rfl | rfl | rfl | rfl | rfl | rfl | rfl
        · exact h
        · exact h
        · exact h
        · exact h
        · exact h
        · exact h
        · exact h
        · exact h
        · exact h
        · exact h
        · exact h
        · exact h
        · exact h
        · exact h
        · exact h
        · exact h
    refine .cons (o := ⟨some 67, _, _, _, _, _⟩) (ds := [11]) (js := [0, 1, 2, 3, 4, 5, 6, 7, 8, 9, 10, 11, 13, 14, 15, 16]) rfl (by kernel_rfl) (by kernel_rfl) ?_ ?_
    · intro x q hG hd K hK
      have d0 : x 11 = .pointer (some ⟨b, i * 4, none⟩) := hd 11 (by simp)
      have hbx := HI.out q hG
      have k0 := hbx.1
      have k1 := hbx.2.1
      have k2 := hbx.2.2.1
      have k3 := hbx.2.2.2
      clear hbx
      refine HidG.mk ?_
      simp only [putsA, Act.put, List.setIfInBounds_toArray, List.set_cons_zero, List.set_cons_succ, Nat.reduceAdd, Nat.zero_add] at hK ⊢
      rw [d0] at hK ⊢
      go_simp
      refine hK _ _ hG (fun j hj h => ?_) rfl
      · simp only [List.mem_cons, List.not_mem_nil, or_false] at hj
        rcases hj with rfl | rfl | rfl | rfl | rfl | rfl | rfl | rfl | rfl | rfl | rfl | rfl | rfl | rfl | rfl | rfl
        · exact h
        · exact h
        · exact h
        · exact h
        · exact h
        · exact h
        · exact h
        · exact h
        · exact h
        · exact h
        · exact h
        · exact h
        · exact h
        · exact h
        · exact h
        · exact h
    refine .cons (o := ⟨some 68, _, _, _, _, _⟩) (ds := []) (js := [0, 1, 2, 3, 4, 5, 6, 7, 8, 9, 10, 11, 12, 14, 16, 17]) rfl (by kernel_rfl) (by kernel_rfl) ?_ ?_
    · intro x q hG hd K hK
      refine HidG.mk ?_
      simp only [putsA, Act.put, List.setIfInBounds_toArray, List.set_cons_zero, List.set_cons_succ, Nat.reduceAdd, Nat.zero_add] at hK ⊢
      go_simp
      refine hK _ _ hG (fun j hj h => ?_) rfl
      · simp only [List.mem_cons, List.not_mem_nil, or_false] at hj
        rcases hj with rfl | rfl | rfl | rfl | rfl | rfl | rfl | rfl | rfl | rfl | rfl | rfl | rfl | rfl | rfl | rfl
        · exact h
        · exact h
        · exact h
        · exact h
        · exact h
        · exact h
        · exact h
        · exact h
        · exact h
        · exact h
        · exact h
        · exact h
        · exact h
        · exact h
        · exact h
        · exact h
    refine .cons (o := ⟨some 69, _, _, _, _, _⟩) (ds := []) (js := [0, 1, 2, 3, 4, 5, 6, 7, 8, 9, 10, 11, 12, 13, 16, 17]) rfl (by kernel_rfl) (by kernel_rfl) ?_ ?_
    · intro x q hG hd K hK
      refine HidG.mk ?_
      simp only [putsA, Act.put, List.setIfInBounds_toArray, List.set_cons_zero, List.set_cons_succ, Nat.reduceAdd, Nat.zero_add] at hK ⊢
      go_simp
      refine hK _ _ hG (fun j hj h => ?_) rfl
      · simp only [List.mem_cons, List.not_mem_nil, or_false] at hj
        rcases hj with rfl | rfl | rfl | rfl | rfl | rfl | rfl | rfl | rfl | rfl | rfl | rfl | rfl | rfl | rfl | rfl
        · exact h
        · exact h
        · exact h
        · exact h
        · exact h
        · exact h
        · exact h
        · exact h
        · exact h
        · exact h
        · exact h
        · exact h
        · exact h
        · exact h
        · exact h
        · exact h
    refine .cons (o := ⟨some 70, _, _, _, _, _⟩) (ds := [13, 14]) (js := [0, 1, 2, 3, 4, 5, 6, 7, 8, 9, 10, 11, 12, 13, 14, 17]) rfl (by kernel_rfl) (by kernel_rfl) ?_ ?_
    · intro x q hG hd K hK
      have d0 : x 13 = .slice (some ⟨b, 0, none⟩) 5 5 := hd 13 (by simp)
      have d1 : x 14 = .int .i64 j := hd 14 (by simp)
      have k0 : (0 : Int) ≤ (j : Int) := by omega
      have k1 : (j : Int) < 5 := by omega
      refine HidG.mk ?_
      simp only [putsA, Act.put, List.setIfInBounds_toArray, List.set_cons_zero, List.set_cons_succ, Nat.reduceAdd, Nat.zero_add] at hK ⊢
      rw [d0, d1] at hK ⊢
      go_simp
      refine hK _ _ hG (fun j hj h => ?_) rfl
      · simp only [List.mem_cons, List.not_mem_nil, or_false] at hj
        rcases hj with rfl | rfl | rfl | rfl | rfl | rfl | rfl | rfl | rfl | rfl | rfl | rfl | rfl | rfl | rfl | rfl
        · exact h
        · exact h
        · exact h
        · exact h
        · exact h
        · exact h
        · exact h
        · exact h
        · exact h
        · exact h
        · exact h
        · exact h
        · exact h
        · exact h
        · exact h
        · exact h
    refine .cons (o := ⟨some 71, _, _, _, _, _⟩) (ds := [15]) (js := [0, 1, 2, 3, 4, 5, 6, 7, 8, 9, 10, 11, 12, 13, 14, 15]) rfl (by kernel_rfl) (by kernel_rfl) ?_ ?_
    · intro x q hG hd K hK
      have d0 : x 15 = .pointer (some ⟨b, j * 4, none⟩) := hd 15 (by simp)
      have hbx := HJ.out q hG
      have k0 := hbx.1
      have k1 := hbx.2.1
      have k2 := hbx.2.2.1
      have k3 := hbx.2.2.2
      clear hbx
      refine HidG.mk ?_
      simp only [putsA, Act.put, List.setIfInBounds_toArray, List.set_cons_zero, List.set_cons_succ, Nat.reduceAdd, Nat.zero_add] at hK ⊢
      rw [d0] at hK ⊢
      go_simp
      refine hK _ _ hG (fun j hj h => ?_) rfl
      · simp only [List.mem_cons, List.not_mem_nil, or_false] at hj
        rcases hj with rfl | rfl | rfl | rfl | rfl | rfl | rfl | rfl | rfl | rfl | rfl | rfl | rfl | rfl | rfl | rfl
        · exact h
        · exact h
        · exact h
        · exact h
        · exact h
        · exact h
        · exact h
        · exact h
        · exact h
        · exact h
        · exact h
        · exact h
        · exact h
        · exact h
        · exact h
        · exact h
    refine .cons (o := ⟨some 72, _, _, _, _, _⟩) (ds := [12, 16, 8]) (js := [0, 1, 2, 3, 4, 5, 6, 7, 8, 9, 10, 11, 12, 13, 14, 15, 16]) rfl (by kernel_rfl) (by kernel_rfl) ?_ .nil
    · intro x q hG hd K hK
      have d0 : x 12 = .agg #[.int .i64 f1, .int .i64 n1, .string s1, .slice A1 l1 c1] := hd 12 (by simp)
      have d1 : x 16 = .agg #[.int .i64 f2, .int .i64 n2, .string s2, .slice A2 l2 c2] := hd 16 (by simp)
      have hG2 : Below V.heap.size V q := hG
      refine HidG.mk ?_
      simp only [putsA, Act.put, List.setIfInBounds_toArray, List.set_cons_zero, List.set_cons_succ, Nat.reduceAdd, Nat.zero_add] at hK ⊢
      rw [d0, d1] at hK ⊢
      go_simp
      (with_reducible refine (HB.out _ hG2).mono ?_)
      rintro e q1 ⟨rfl, hb⟩
      refine hK _ _ (hG2.trans (hb.mono hG2.size)) (fun j hj h => ?_) rfl
      · simp only [List.mem_cons, List.not_mem_nil, or_false] at hj
        rcases hj with rfl | rfl | rfl | rfl | rfl | rfl | rfl | rfl | rfl | rfl | rfl | rfl | rfl | rfl | rfl | rfl | rfl
        · exact h
        · exact h
        · exact h
        · exact h
        · exact h
        · exact h
        · exact h
        · exact h
        · exact h
        · exact h
        · exact h
        · exact h
        · exact h
        · exact h
        · exact h
        · exact h
        · exact h
  · intro x q hG hd K hK
    have d8 : x 8 = .bool r := hd 8 (by omega)
    have d17 : x 17 = .bool r := hd 17 (by omega)
    refine HidG.mk ?_
    simp only [putsA, Act.put, List.setIfInBounds_toArray, List.set_cons_zero, List.set_cons_succ, Nat.reduceAdd, Nat.zero_add] at hK ⊢
    rw [d8, d17] at hK ⊢
    go_simp
    exact hK _ _ ⟨by first | rfl | (simp [updV]), hG⟩
  · intro x q hF
    simp only [putsA, Act.put, List.setIfInBounds_toArray, List.set_cons_zero, List.set_cons_succ, Nat.reduceAdd, Nat.zero_add]
    have e : x 18 = .bool false := hF.1
    rw [e]
    exact hf (x 0) (x 1) (x 2) (x 3) (x 4) (x 5) (x 6) (x 7) (x 8) (x 9) (x 10) (x 11) (x 12) (x 13) (x 14) (x 15) (x 16) (x 17) q hF.2
end Go.Proofs.YtbdfjboojokgdaaDoor
