/- TypesPuts (chapter 4): what the law's region asks, by itself; rows of at most three types put. Conditions: those that each theorem names. -/
import Derived.Test.YtbdfjboojokgdaaDoorJU46
import Derived.Test.YtbdfjboojokgdaaDoorJU47
namespace Go.Proofs.YtbdfjboojokgdaaDoor
open Go.RowKit

/-- What a law puts: at most three names, each another one, and a type of the small world for each. -/
structure Puts (σ : List (ByteArray × Ty)) : Prop where
  fit : ∀ p ∈ σ, p.1.size ≤ 1048576 ∧ Fit 97 p.2
  nd : (σ.map (·.1)).Nodup
  len : σ.length ≤ 3
theorem taken_le {m : Nat} : ∀ (σ : List (ByteArray × Ty)), (∀ p ∈ σ, p.2.sz ≤ m) → (takenB σ).length ≤ σ.length * m
  | [], _ => by simp [takenB]
  | p :: r, h => by
    have ih := taken_le r (fun q hq => h q (List.mem_cons_of_mem _ hq))
    have h1 := h p (List.mem_cons_self ..)
    have h2 := freeT_len p.2
    unfold takenB at ih ⊢
    rw [List.flatMap_cons, List.length_append, List.length_cons, Nat.add_mul]
    omega
theorem Puts.taken {σ : List (ByteArray × Ty)} (h : Puts σ) : (takenB σ).length ≤ 291 := by
  have h1 := taken_le (m := 97) σ (fun p hp => (h.fit p hp).2.sz)
  have h2 := Nat.mul_le_mul_right 97 h.len
  omega
theorem Fit.subs {m : Nat} {t : Ty} {σ : List (ByteArray × Ty)} (h : Fit m t) (hp : Puts σ) (hm : m ≤ 1048576) : Fit (m * 97) (t.sub σ) := by
  have h1 := hp.taken
  have h3 := h.sz
  exact ⟨short_sub t _ h.sh (fun p hq => (hp.fit p hq).2.sh) (by omega), Nat.le_trans (sz_subM t 97 _ (by omega) (fun p hq => (hp.fit p hq).2.sz)) (Nat.mul_le_mul_right _ h.sz)⟩
theorem subst_many {P Q R : Nat → Prop} {m : Nat} {t : Ty} {σ : List (ByteArray × Ty)} {v nv bv : Value} {w : World} (h : TyAt P w t v) (hn : StrsAt Q w nv (σ.map (·.1))) (hb : TysAt R w (σ.map (·.2)) bv) (ft : Fit m t) (hp : Puts σ) (hm : m ≤ 16384) (htab : TabW w) :
    Calls Tryd.prog 29 #[v, nv, bv] w fun e w' => ∃ u, e = .returned u ∧ TyAt (fun _ => True) w' (t.sub σ) u ∧ Below w.heap.size w w' := by
  have h1 := hp.taken
  have h2 := hp.len
  have h3 := ft.sz
  refine (subst_any Q t σ v nv bv w h.bound' hn hb.bound' ft.sh (fun p hq => ?_) hp.nd (by omega) (by omega) htab).mono ?_
  · have h4 := hp.fit p hq
    have h5 := h4.2.sz
    exact ⟨by omega, h4.2.sh, by omega⟩
  · rintro e w' ⟨u, h1, h2, h3⟩
    exact ⟨u, h1, h2.all, h3⟩
theorem refsub_many {P Q R : Nat → Prop} {m : Nat} {t : Ty} {σ : List (ByteArray × Ty)} {v nv bv : Value} {w : World} (h : TyAt P w t v) (hn : StrsAt Q w nv (σ.map (·.1))) (hb : TysAt R w (σ.map (·.2)) bv) (ft : Fit m t) (hp : Puts σ) (hm : m ≤ 16384) :
    Calls Tryd.prog 24 #[v, nv, bv] w fun e w' => ∃ u, e = .returned u ∧ TyAt (fun _ => True) w' (t.sub σ) u ∧ Below w.heap.size w w' := by
  have h2 := hp.len
  have h3 := ft.sz
  refine (refsub_any Q t σ v nv bv w h.bound' hn hb.bound' (fun p hq => ?_) (by omega)).mono ?_
  · have h5 := (hp.fit p hq).2.sz
    omega
  · rintro e w' ⟨u, h1, h2, h3⟩
    exact ⟨u, h1, h2.all, h3⟩
inductive KQ where
  | val (v : Value)
  | at (t : Ty)
  | any
def RQ (K : Nat → KQ) (j : Nat) (x : Nat → Value) (q : World) : Prop :=
  match K j with
  | .val v => x j = v
  | .at t => TyAt (fun _ => True) q t (x j)
  | .any => True
theorem rq_keep {q q1 : World} {K : Nat → KQ} {u : Value} {x : Nat → Value} {i j : Nat} (hb : Below q.heap.size q q1) (hj : j ≠ i) (h : RQ K j x q) : RQ K j (updV x i u) q1 := by
  have e : ∀ l, l ≠ i → updV x i u l = x l := fun l hl => if_neg hl
  unfold RQ at h ⊢
  cases hk : K j with
  | val v => rw [hk] at h; exact (e j hj).trans h
  | «at» t => rw [hk] at h; show TyAt _ q1 t (updV x i u j); rw [e j hj]; exact TyAt.on h hb
  | any => trivial
def FQ (X : World) (x : Nat → Value) (q : World) : Prop := x 12 = .bool true ∧ Below X.heap.size X q
def K5p (v nv bv : Value) (t : Ty) (σ : List (ByteArray × Ty)) : Nat → KQ
  | 0 => .val v
  | 1 => .val nv
  | 2 => .val bv
  | 3 => .at (t.sub σ)
  | 4 => .val v
  | 5 => .val nv
  | 6 => .val bv
  | 7 => .at (t.sub σ)
  | 8 => .val (.bool true)
  | 9 => .val (.bool true)
  | 10 => .val (.bool true)
  | 11 => .val (.bool true)
  | _ => .any
set_option maxRecDepth 100000 in
set_option maxHeartbeats 1000000 in
theorem puts_reg3 {V : World} {t : Ty} {σ : List (ByteArray × Ty)} {f0 n0 : Int} {s0 : ByteArray} {A0 An Ab : Option Addr} {l0 c0 g0 ln cn lb cb : Nat} (HQ : Hid (Box4 V g0 (.int .i64 f0) (.int .i64 n0) (.string s0) (.slice A0 l0 c0))) (HT : Hid (TyAt (fun _ => True) V t (.agg #[.int .i64 f0, .int .i64 n0, .string s0, .slice A0 l0 c0]))) (HN : Hid (StrsAt (fun _ => True) V (.slice An ln cn) (σ.map (·.1)))) (HB : Hid (TysAt (fun _ => True) V (σ.map (·.2)) (.slice Ab lb cb))) (ft : Fit 97 t) (hp : Puts σ) (htab : TabW V) {Q : Exit → Act → World → Prop} {ds : List Deferred} {r0 r1 r2 r3 r4 r5 r6 r10 r11 r12 r13 r14 r15 r16 r17 r18 r19 r20 r21 r22 r23 r24 r25 r26 r27 r28 r29 : Value}
    (hf : ∀ (x0 x1 x2 x3 x4 x5 x6 x7 x8 x9 x10 x11 x12 : Value) (q : World), x12 = .bool true → Below V.heap.size V q → Q .normal ⟨#[r0, r1, r2, r3, r4, r5, x12, .pointer (some ⟨g0, 0, none⟩), .slice An ln cn, .slice Ab lb cb, r10, r11, r12, r13, r14, r15, r16, r17, x0, x1, x2, x3, x4, x5, x6, x7, x8, x9, x10, x11], ds⟩ q) :
    Code.wp Tryd.prog (Code.region 3 #[{ dst := some 18, op := Op.load 25 (Operand.tmp 7), type := 25, pos := "law.go:89", after := #[], guard := none }, { dst := some 19, op := Op.move (Operand.tmp 8), type := 28, pos := "law.go:89", after := #[], guard := none }, { dst := some 20, op := Op.move (Operand.tmp 9), type := 23, pos := "law.go:89", after := #[], guard := none }, { dst := some 21, op := Op.call { callee := Callee.value (Operand.func 29), args := #[Operand.tmp 18, Operand.tmp 19, Operand.tmp 20], argTypes := #[25, 28, 23] }, type := 25, pos := "law.go:89", after := #[{ on := 0, ground := Ground.data }, { on := 1, ground := Ground.data }, { on := 2, ground := Ground.data }], guard := none }, { dst := some 22, op := Op.load 25 (Operand.tmp 7), type := 25, pos := "law.go:89", after := #[], guard := none }, { dst := some 23, op := Op.move (Operand.tmp 8), type := 28, pos := "law.go:89", after := #[], guard := none }, { dst := some 24, op := Op.move (Operand.tmp 9), type := 23, pos := "law.go:89", after := #[], guard := none }, { dst := some 25, op := Op.call { callee := Callee.value (Operand.func 24), args := #[Operand.tmp 22, Operand.tmp 23, Operand.tmp 24], argTypes := #[25, 28, 23] }, type := 25, pos := "law.go:89", after := #[{ on := 4, ground := Ground.data }, { on := 5, ground := Ground.data }, { on := 6, ground := Ground.data }, { on := 3, ground := Ground.chain }], guard := none }, { dst := some 26, op := Op.call { callee := Callee.value (Operand.func 28), args := #[Operand.tmp 21, Operand.tmp 25], argTypes := #[25, 25] }, type := 4, pos := "law.go:89", after := #[{ on := 3, ground := Ground.data }, { on := 7, ground := Ground.data }, { on := 7, ground := Ground.chain }], guard := none }, { dst := some 27, op := Op.move (Operand.tmp 26), type := 4, pos := "law.go:89", after := #[{ on := 8, ground := Ground.data }, { on := 8, ground := Ground.chain }], guard := none }, { dst := some 28, op := Op.call { callee := Callee.value (Operand.func 21), args := #[], argTypes := #[] }, type := 4, pos := "law.go:89", after := #[{ on := 9, ground := Ground.chain }, { on := 9, ground := Ground.guard }], guard := some (9, true) }, { dst := some 29, op := Op.pick (Operand.tmp 27) (Operand.tmp 28) (Operand.const (Value.bool false)), type := 4, pos := "law.go:89", after := #[{ on := 9, ground := Ground.data }, { on := 10, ground := Ground.data }], guard := none }, { dst := some 6, op := Op.assign (Operand.tmp 29), type := 4, pos := "law.go:89", after := #[{ on := 11, ground := Ground.data }, { on := 10, ground := Ground.chain }, { on := 0, ground := Ground.phase }, { on := 1, ground := Ground.phase }, { on := 2, ground := Ground.phase }, { on := 3, ground := Ground.phase }, { on := 4, ground := Ground.phase }, { on := 5, ground := Ground.phase }, { on := 6, ground := Ground.phase }, { on := 7, ground := Ground.phase }, { on := 8, ground := Ground.phase }, { on := 9, ground := Ground.phase }, { on := 10, ground := Ground.phase }, { on := 11, ground := Ground.phase }], guard := none }] true) Q ⟨#[r0, r1, r2, r3, r4, r5, r6, .pointer (some ⟨g0, 0, none⟩), .slice An ln cn, .slice Ab lb cb, r10, r11, r12, r13, r14, r15, r16, r17, r18, r19, r20, r21, r22, r23, r24, r25, r26, r27, r28, r29], ds⟩ V := by
  refine wp_region_rel (m := 12) (o := ⟨some 6, _, _, _, _, _⟩) (D := [some 18, some 19, some 20, some 21, some 22, some 23, some 24, some 25, some 26, some 27, some 28, some 29, some 6]) (G := GBel V) (R := RQ (K5p (.agg #[.int .i64 f0, .int .i64 n0, .string s0, .slice A0 l0 c0]) (.slice An ln cn) (.slice Ab lb cb) t σ)) (FQ V) V (by kernel_rfl) (by kernel_rfl) (by kernel_rfl) (by rfl) (by kernel_rfl) (by kernel_rfl) (by kernel_rfl) ?_ ?_ ?_ ?_
  · intro x' hx'
    exact (Below.refl _ V).drew
  · show StepsI _ _ _ _ _ _ _ _ [0, 1, 2, 3, 4, 5, 6, 7, 8, 9, 10, 11]
    refine .cons (o := ⟨some 18, _, _, _, _, _⟩) (ds := []) (js := [1, 2, 4, 5, 6, 7, 8, 9, 10, 11]) rfl (by kernel_rfl) (by kernel_rfl) ?_ ?_
    · intro x' q hG hd K hK
      have hbx := HQ.out.on hG
      have k0 := hbx.2.1
      have k1 := hbx.2.2.1
      have k2 := hbx.2.2.2.1
      have k3 := hbx.2.2.2.2.1
      clear hbx
      refine HidG.mk ?_
      simp only [putsA, Act.put, List.setIfInBounds_toArray, List.set_cons_zero, List.set_cons_succ, Nat.reduceAdd, Nat.zero_add] at hK ⊢
      go_simp
      refine hK _ _ hG (fun j hj h => ?_) (by exact rfl)
      · simp only [List.mem_cons, List.not_mem_nil, or_false] at hj
        rcases hj with rfl | rfl | rfl | rfl | rfl | rfl | rfl | rfl | rfl | rfl
        · exact rq_keep (Below.refl _ _) (by decide) h
        · exact rq_keep (Below.refl _ _) (by decide) h
        · exact rq_keep (Below.refl _ _) (by decide) h
        · exact rq_keep (Below.refl _ _) (by decide) h
        · exact rq_keep (Below.refl _ _) (by decide) h
        · exact rq_keep (Below.refl _ _) (by decide) h
        · exact rq_keep (Below.refl _ _) (by decide) h
        · exact rq_keep (Below.refl _ _) (by decide) h
        · exact rq_keep (Below.refl _ _) (by decide) h
        · exact rq_keep (Below.refl _ _) (by decide) h
    refine .cons (o := ⟨some 19, _, _, _, _, _⟩) (ds := []) (js := [0, 2, 4, 5, 6, 7, 8, 9, 10, 11]) rfl (by kernel_rfl) (by kernel_rfl) ?_ ?_
    · intro x' q hG hd K hK
      refine HidG.mk ?_
      simp only [putsA, Act.put, List.setIfInBounds_toArray, List.set_cons_zero, List.set_cons_succ, Nat.reduceAdd, Nat.zero_add] at hK ⊢
      go_simp
      refine hK _ _ hG (fun j hj h => ?_) (by exact rfl)
      · simp only [List.mem_cons, List.not_mem_nil, or_false] at hj
        rcases hj with rfl | rfl | rfl | rfl | rfl | rfl | rfl | rfl | rfl | rfl
        · exact rq_keep (Below.refl _ _) (by decide) h
        · exact rq_keep (Below.refl _ _) (by decide) h
        · exact rq_keep (Below.refl _ _) (by decide) h
        · exact rq_keep (Below.refl _ _) (by decide) h
        · exact rq_keep (Below.refl _ _) (by decide) h
        · exact rq_keep (Below.refl _ _) (by decide) h
        · exact rq_keep (Below.refl _ _) (by decide) h
        · exact rq_keep (Below.refl _ _) (by decide) h
        · exact rq_keep (Below.refl _ _) (by decide) h
        · exact rq_keep (Below.refl _ _) (by decide) h
    refine .cons (o := ⟨some 20, _, _, _, _, _⟩) (ds := []) (js := [0, 1, 4, 5, 6, 7, 8, 9, 10, 11]) rfl (by kernel_rfl) (by kernel_rfl) ?_ ?_
    · intro x' q hG hd K hK
      refine HidG.mk ?_
      simp only [putsA, Act.put, List.setIfInBounds_toArray, List.set_cons_zero, List.set_cons_succ, Nat.reduceAdd, Nat.zero_add] at hK ⊢
      go_simp
      refine hK _ _ hG (fun j hj h => ?_) (by exact rfl)
      · simp only [List.mem_cons, List.not_mem_nil, or_false] at hj
        rcases hj with rfl | rfl | rfl | rfl | rfl | rfl | rfl | rfl | rfl | rfl
        · exact rq_keep (Below.refl _ _) (by decide) h
        · exact rq_keep (Below.refl _ _) (by decide) h
        · exact rq_keep (Below.refl _ _) (by decide) h
        · exact rq_keep (Below.refl _ _) (by decide) h
        · exact rq_keep (Below.refl _ _) (by decide) h
        · exact rq_keep (Below.refl _ _) (by decide) h
        · exact rq_keep (Below.refl _ _) (by decide) h
        · exact rq_keep (Below.refl _ _) (by decide) h
        · exact rq_keep (Below.refl _ _) (by decide) h
        · exact rq_keep (Below.refl _ _) (by decide) h
    refine .cons (o := ⟨some 21, _, _, _, _, _⟩) (ds := [0, 1, 2]) (js := [0, 1, 2, 4, 5, 6, 9, 10, 11]) rfl (by kernel_rfl) (by kernel_rfl) ?_ ?_
    · intro x' q hG hd K hK
      have d0 : x' 0 = .agg #[.int .i64 f0, .int .i64 n0, .string s0, .slice A0 l0 c0] := hd 0 (by simp)
      have d1 : x' 1 = .slice An ln cn := hd 1 (by simp)
      have d2 : x' 2 = .slice Ab lb cb := hd 2 (by simp)
      have hcall := subst_many (HT.out.on hG) (HN.out.keep (.of_below hG)) (HB.out.on hG) ft hp (by omega) (htab.on hG)
      refine HidG.mk ?_
      simp only [putsA, Act.put, List.setIfInBounds_toArray, List.set_cons_zero, List.set_cons_succ, Nat.reduceAdd, Nat.zero_add] at hK ⊢
      rw [d0, d1, d2] at hK ⊢
      go_simp
      (with_reducible refine hcall.mono ?_)
      rintro e q1 ⟨u, rfl, ht, hb⟩
      refine hK _ _ (hG.trans (hb.mono hG.size)) (fun j hj h => ?_) (by exact ht)
      · simp only [List.mem_cons, List.not_mem_nil, or_false] at hj
        rcases hj with rfl | rfl | rfl | rfl | rfl | rfl | rfl | rfl | rfl
        · exact rq_keep hb (by decide) h
        · exact rq_keep hb (by decide) h
        · exact rq_keep hb (by decide) h
        · exact rq_keep hb (by decide) h
        · exact rq_keep hb (by decide) h
        · exact rq_keep hb (by decide) h
        · exact rq_keep hb (by decide) h
        · exact rq_keep hb (by decide) h
        · exact rq_keep hb (by decide) h
    refine .cons (o := ⟨some 22, _, _, _, _, _⟩) (ds := []) (js := [0, 1, 2, 3, 5, 6, 8, 9, 10, 11]) rfl (by kernel_rfl) (by kernel_rfl) ?_ ?_
    · intro x' q hG hd K hK
      have hbx := HQ.out.on hG
      have k0 := hbx.2.1
      have k1 := hbx.2.2.1
      have k2 := hbx.2.2.2.1
      have k3 := hbx.2.2.2.2.1
      clear hbx
      refine HidG.mk ?_
      simp only [putsA, Act.put, List.setIfInBounds_toArray, List.set_cons_zero, List.set_cons_succ, Nat.reduceAdd, Nat.zero_add] at hK ⊢
      go_simp
      refine hK _ _ hG (fun j hj h => ?_) (by exact rfl)
      · simp only [List.mem_cons, List.not_mem_nil, or_false] at hj
        rcases hj with rfl | rfl | rfl | rfl | rfl | rfl | rfl | rfl | rfl | rfl
        · exact rq_keep (Below.refl _ _) (by decide) h
        · exact rq_keep (Below.refl _ _) (by decide) h
        · exact rq_keep (Below.refl _ _) (by decide) h
        · exact rq_keep (Below.refl _ _) (by decide) h
        · exact rq_keep (Below.refl _ _) (by decide) h
        · exact rq_keep (Below.refl _ _) (by decide) h
        · exact rq_keep (Below.refl _ _) (by decide) h
        · exact rq_keep (Below.refl _ _) (by decide) h
        · exact rq_keep (Below.refl _ _) (by decide) h
        · exact rq_keep (Below.refl _ _) (by decide) h
    refine .cons (o := ⟨some 23, _, _, _, _, _⟩) (ds := []) (js := [0, 1, 2, 3, 4, 6, 8, 9, 10, 11]) rfl (by kernel_rfl) (by kernel_rfl) ?_ ?_
    · intro x' q hG hd K hK
      refine HidG.mk ?_
      simp only [putsA, Act.put, List.setIfInBounds_toArray, List.set_cons_zero, List.set_cons_succ, Nat.reduceAdd, Nat.zero_add] at hK ⊢
      go_simp
      refine hK _ _ hG (fun j hj h => ?_) (by exact rfl)
      · simp only [List.mem_cons, List.not_mem_nil, or_false] at hj
        rcases hj with rfl | rfl | rfl | rfl | rfl | rfl | rfl | rfl | rfl | rfl
        · exact rq_keep (Below.refl _ _) (by decide) h
        · exact rq_keep (Below.refl _ _) (by decide) h
        · exact rq_keep (Below.refl _ _) (by decide) h
        · exact rq_keep (Below.refl _ _) (by decide) h
        · exact rq_keep (Below.refl _ _) (by decide) h
        · exact rq_keep (Below.refl _ _) (by decide) h
        · exact rq_keep (Below.refl _ _) (by decide) h
        · exact rq_keep (Below.refl _ _) (by decide) h
        · exact rq_keep (Below.refl _ _) (by decide) h
        · exact rq_keep (Below.refl _ _) (by decide) h
    refine .cons (o := ⟨some 24, _, _, _, _, _⟩) (ds := []) (js := [0, 1, 2, 3, 4, 5, 8, 9, 10, 11]) rfl (by kernel_rfl) (by kernel_rfl) ?_ ?_
    · intro x' q hG hd K hK
      refine HidG.mk ?_
      simp only [putsA, Act.put, List.setIfInBounds_toArray, List.set_cons_zero, List.set_cons_succ, Nat.reduceAdd, Nat.zero_add] at hK ⊢
      go_simp
      refine hK _ _ hG (fun j hj h => ?_) (by exact rfl)
      · simp only [List.mem_cons, List.not_mem_nil, or_false] at hj
        rcases hj with rfl | rfl | rfl | rfl | rfl | rfl | rfl | rfl | rfl | rfl
        · exact rq_keep (Below.refl _ _) (by decide) h
        · exact rq_keep (Below.refl _ _) (by decide) h
        · exact rq_keep (Below.refl _ _) (by decide) h
        · exact rq_keep (Below.refl _ _) (by decide) h
        · exact rq_keep (Below.refl _ _) (by decide) h
        · exact rq_keep (Below.refl _ _) (by decide) h
        · exact rq_keep (Below.refl _ _) (by decide) h
        · exact rq_keep (Below.refl _ _) (by decide) h
        · exact rq_keep (Below.refl _ _) (by decide) h
        · exact rq_keep (Below.refl _ _) (by decide) h
    refine .cons (o := ⟨some 25, _, _, _, _, _⟩) (ds := [4, 5, 6, 3]) (js := [0, 1, 2, 3, 4, 5, 6, 9, 10, 11]) rfl (by kernel_rfl) (by kernel_rfl) ?_ ?_
    · intro x' q hG hd K hK
      have d4 : x' 4 = .agg #[.int .i64 f0, .int .i64 n0, .string s0, .slice A0 l0 c0] := hd 4 (by simp)
      have d5 : x' 5 = .slice An ln cn := hd 5 (by simp)
      have d6 : x' 6 = .slice Ab lb cb := hd 6 (by simp)
      have hcall := refsub_many (HT.out.on hG) (HN.out.keep (.of_below hG)) (HB.out.on hG) ft hp (by omega)
      refine HidG.mk ?_
      simp only [putsA, Act.put, List.setIfInBounds_toArray, List.set_cons_zero, List.set_cons_succ, Nat.reduceAdd, Nat.zero_add] at hK ⊢
      rw [d4, d5, d6] at hK ⊢
      go_simp
      (with_reducible refine hcall.mono ?_)
      rintro e q1 ⟨u, rfl, ht, hb⟩
      refine hK _ _ (hG.trans (hb.mono hG.size)) (fun j hj h => ?_) (by exact ht)
      · simp only [List.mem_cons, List.not_mem_nil, or_false] at hj
        rcases hj with rfl | rfl | rfl | rfl | rfl | rfl | rfl | rfl | rfl | rfl
        · exact rq_keep hb (by decide) h
        · exact rq_keep hb (by decide) h
        · exact rq_keep hb (by decide) h
        · exact rq_keep hb (by decide) h
        · exact rq_keep hb (by decide) h
        · exact rq_keep hb (by decide) h
        · exact rq_keep hb (by decide) h
        · exact rq_keep hb (by decide) h
        · exact rq_keep hb (by decide) h
        · exact rq_keep hb (by decide) h
    refine .cons (o := ⟨some 26, _, _, _, _, _⟩) (ds := [3, 7, 7]) (js := [0, 1, 2, 3, 4, 5, 6, 7, 10, 11]) rfl (by kernel_rfl) (by kernel_rfl) ?_ ?_
    · intro x' q hG hd K hK
      have d3 : TyAt (fun _ => True) q (t.sub σ) (x' 3) := hd 3 (by simp)
      have d7 : TyAt (fun _ => True) q (t.sub σ) (x' 7) := hd 7 (by simp)
      have hcall := equal_any _ _ _ _ _ _ _ q (Nat.le_refl _) d3 d7
      rw [eqT_true rfl] at hcall
      refine HidG.mk ?_
      simp only [putsA, Act.put, List.setIfInBounds_toArray, List.set_cons_zero, List.set_cons_succ, Nat.reduceAdd, Nat.zero_add] at hK ⊢
      go_simp
      (with_reducible refine hcall.mono ?_)
      rintro e q1 ⟨rfl, hb⟩
      refine hK _ _ (hG.trans (hb.mono hG.size)) (fun j hj h => ?_) (by exact rfl)
      · simp only [List.mem_cons, List.not_mem_nil, or_false] at hj
        rcases hj with rfl | rfl | rfl | rfl | rfl | rfl | rfl | rfl | rfl | rfl
        · exact rq_keep hb (by decide) h
        · exact rq_keep hb (by decide) h
        · exact rq_keep hb (by decide) h
        · exact rq_keep hb (by decide) h
        · exact rq_keep hb (by decide) h
        · exact rq_keep hb (by decide) h
        · exact rq_keep hb (by decide) h
        · exact rq_keep hb (by decide) h
        · exact rq_keep hb (by decide) h
        · exact rq_keep hb (by decide) h
    refine .cons (o := ⟨some 27, _, _, _, _, _⟩) (ds := [8, 8]) (js := [0, 1, 2, 3, 4, 5, 6, 7, 8]) rfl (by kernel_rfl) (by kernel_rfl) ?_ ?_
    · intro x' q hG hd K hK
      have d8 : x' 8 = .bool true := hd 8 (by simp)
      refine HidG.mk ?_
      simp only [putsA, Act.put, List.setIfInBounds_toArray, List.set_cons_zero, List.set_cons_succ, Nat.reduceAdd, Nat.zero_add] at hK ⊢
      rw [d8] at hK ⊢
      go_simp
      refine hK _ _ hG (fun j hj h => ?_) (by exact rfl)
      · simp only [List.mem_cons, List.not_mem_nil, or_false] at hj
        rcases hj with rfl | rfl | rfl | rfl | rfl | rfl | rfl | rfl | rfl
        · exact rq_keep (Below.refl _ _) (by decide) h
        · exact rq_keep (Below.refl _ _) (by decide) h
        · exact rq_keep (Below.refl _ _) (by decide) h
        · exact rq_keep (Below.refl _ _) (by decide) h
        · exact rq_keep (Below.refl _ _) (by decide) h
        · exact rq_keep (Below.refl _ _) (by decide) h
        · exact rq_keep (Below.refl _ _) (by decide) h
        · exact rq_keep (Below.refl _ _) (by decide) h
        · exact rq_keep (Below.refl _ _) (by decide) h
    refine .cons (o := ⟨some 28, _, _, _, _, _⟩) (ds := [9, 9]) (js := [0, 1, 2, 3, 4, 5, 6, 7, 8, 9]) rfl (by kernel_rfl) (by kernel_rfl) ?_ ?_
    · intro x' q hG hd K hK
      have d9 : x' 9 = .bool true := hd 9 (by simp)
      refine HidG.mk ?_
      simp only [putsA, Act.put, List.setIfInBounds_toArray, List.set_cons_zero, List.set_cons_succ, Nat.reduceAdd, Nat.zero_add] at hK ⊢
      rw [d9] at hK ⊢
      go_simp
      refine (lives_any _).mono ?_
      rintro e q1 ⟨rfl, hb⟩
      refine hK _ _ (hG.trans (hb.mono hG.size)) (fun j hj h => ?_) (by exact rfl)
      · simp only [List.mem_cons, List.not_mem_nil, or_false] at hj
        rcases hj with rfl | rfl | rfl | rfl | rfl | rfl | rfl | rfl | rfl | rfl
        · exact rq_keep hb (by decide) h
        · exact rq_keep hb (by decide) h
        · exact rq_keep hb (by decide) h
        · exact rq_keep hb (by decide) h
        · exact rq_keep hb (by decide) h
        · exact rq_keep hb (by decide) h
        · exact rq_keep hb (by decide) h
        · exact rq_keep hb (by decide) h
        · exact rq_keep hb (by decide) h
        · exact rq_keep hb (by decide) h
    refine .cons (o := ⟨some 29, _, _, _, _, _⟩) (ds := [9, 10]) (js := [0, 1, 2, 3, 4, 5, 6, 7, 8, 9, 10]) rfl (by kernel_rfl) (by kernel_rfl) ?_ .nil
    · intro x' q hG hd K hK
      have d9 : x' 9 = .bool true := hd 9 (by simp)
      have d10 : x' 10 = .bool true := hd 10 (by simp)
      refine HidG.mk ?_
      simp only [putsA, Act.put, List.setIfInBounds_toArray, List.set_cons_zero, List.set_cons_succ, Nat.reduceAdd, Nat.zero_add] at hK ⊢
      rw [d9, d10] at hK ⊢
      go_simp
      refine hK _ _ hG (fun j hj h => ?_) (by exact rfl)
      · simp only [List.mem_cons, List.not_mem_nil, or_false] at hj
        rcases hj with rfl | rfl | rfl | rfl | rfl | rfl | rfl | rfl | rfl | rfl | rfl
        · exact rq_keep (Below.refl _ _) (by decide) h
        · exact rq_keep (Below.refl _ _) (by decide) h
        · exact rq_keep (Below.refl _ _) (by decide) h
        · exact rq_keep (Below.refl _ _) (by decide) h
        · exact rq_keep (Below.refl _ _) (by decide) h
        · exact rq_keep (Below.refl _ _) (by decide) h
        · exact rq_keep (Below.refl _ _) (by decide) h
        · exact rq_keep (Below.refl _ _) (by decide) h
        · exact rq_keep (Below.refl _ _) (by decide) h
        · exact rq_keep (Below.refl _ _) (by decide) h
        · exact rq_keep (Below.refl _ _) (by decide) h
  · intro x' q hG hd K hK
    have d11 : x' 11 = .bool true := hd 11 (by omega)
    refine HidG.mk ?_
    simp only [putsA, Act.put, List.setIfInBounds_toArray, List.set_cons_zero, List.set_cons_succ, Nat.reduceAdd, Nat.zero_add] at hK ⊢
    rw [d11] at hK ⊢
    go_simp
    exact hK (.bool true) _ ⟨rfl, hG⟩
  · intro x' q hF
    simp only [putsA, Act.put, List.setIfInBounds_toArray, List.set_cons_zero, List.set_cons_succ, Nat.reduceAdd, Nat.zero_add]
    exact hf (x' 0) (x' 1) (x' 2) (x' 3) (x' 4) (x' 5) (x' 6) (x' 7) (x' 8) (x' 9) (x' 10) (x' 11) (x' 12) q hF.1 hF.2
end Go.Proofs.YtbdfjboojokgdaaDoor
