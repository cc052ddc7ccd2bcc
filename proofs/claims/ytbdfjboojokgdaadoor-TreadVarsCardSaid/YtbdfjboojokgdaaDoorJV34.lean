/- TreadVars' region that reads a scheme (chapter 5), by itself. Conditions: those that each theorem names. -/
import Derived.Test.YtbdfjboojokgdaaDoorJV33
import Derived.Test.YtbdfjboojokgdaaDoorJV28
import Derived.Test.YtbdfjboojokgdaaDoorJV17
import Derived.Deep.RegionHeld3
namespace Go.Proofs.YtbdfjboojokgdaaDoor
open Go.RowKit Lx

/-- A row of predicates in blocks of which P holds. -/
def PsP (P : Nat → Prop) (w : World) (ps : List (ByteArray × Ty)) (v : Value) : Prop :=
  ∃ A c, v = .slice A ps.length c ∧ (ps = [] ∨ ∃ b, A = some ⟨b, 0, none⟩ ∧ b < w.heap.size ∧ P b ∧ ∀ i (h : i < ps.length), ∃ f n s A' l c', w.cell? ⟨b, i * 5, none⟩ = some (.string ps[i].1) ∧ w.cell? ⟨b, i * 5 + 1, none⟩ = some (.int .i64 f) ∧ w.cell? ⟨b, i * 5 + 2, none⟩ = some (.int .i64 n) ∧ w.cell? ⟨b, i * 5 + 3, none⟩ = some (.string s) ∧ w.cell? ⟨b, i * 5 + 4, none⟩ = some (.slice A' l c') ∧ TyAt P w ps[i].2 (.agg #[.int .i64 f, .int .i64 n, .string s, .slice A' l c']))
theorem PRow.psp {base : Nat} {w : World} {ps : List (ByteArray × Ty)} {v : Value} (h : PRow base w ps v) : PsP (fun b => base ≤ b) w ps v := by
  obtain ⟨cs, ho, ht⟩ := h
  rcases ho.2 with ⟨h1, h2⟩ | ⟨g, cap, cur, h1, h2, h3, h4, h5, h6, h7⟩
  · exact ⟨none, 0, by rw [h1, h2], .inl (List.eq_nil_of_length_eq_zero h2)⟩
  · rw [h1] at ho
    have hg := (World.ownsRow.lt ho g rfl).1
    refine ⟨some ⟨g, 0, none⟩, cap, h1, .inr ⟨g, rfl, lt_of_block h3, hg, fun i hi => ?_⟩⟩
    obtain ⟨x0, x1, x2, x3, c0, c1, c2, c3, c4, hx⟩ := ht i hi
    obtain ⟨f, n, s, A', l, c', e⟩ := hx.flat
    simp only [Value.agg.injEq, Array.mk.injEq, List.cons.injEq, and_true] at e
    obtain ⟨rfl, rfl, rfl, rfl⟩ := e
    exact ⟨f, n, s, A', l, c', by rw [World.ownsRow.cellAt ho _ (by omega)]; exact c0, by rw [World.ownsRow.cellAt ho _ (by omega)]; exact c1, by rw [World.ownsRow.cellAt ho _ (by omega)]; exact c2, by rw [World.ownsRow.cellAt ho _ (by omega)]; exact c3, by rw [World.ownsRow.cellAt ho _ (by omega)]; exact c4, hx.mono (fun b hb => hb.1)⟩
theorem PsP.keep {P : Nat → Prop} {w w' : World} {ps : List (ByteArray × Ty)} {v : Value} (h : PsP P w ps v) (hb : Keeps P w w') : PsP P w' ps v := by
  obtain ⟨A, c, e, hr⟩ := h
  refine ⟨A, c, e, ?_⟩
  rcases hr with h | ⟨b, e2, hlt, hp, hc⟩
  · exact .inl h
  · refine .inr ⟨b, e2, Nat.lt_of_lt_of_le hlt hb.size, hp, fun i hi => ?_⟩
    obtain ⟨f, n, s, A', l, c', k0, k1, k2, k3, k4, ht⟩ := hc i hi
    exact ⟨f, n, s, A', l, c', (hb.cell _ _ hp hlt).trans k0, (hb.cell _ _ hp hlt).trans k1, (hb.cell _ _ hp hlt).trans k2, (hb.cell _ _ hp hlt).trans k3, (hb.cell _ _ hp hlt).trans k4, ht.keep hb⟩
theorem PsP.bnd {P Q : Nat → Prop} {w : World} {ps : List (ByteArray × Ty)} {v : Value} (h : PsP P w ps v) (hpq : ∀ b, P b → b < w.heap.size → Q b) : PsP Q w ps v := by
  obtain ⟨A, c, e, hr⟩ := h
  refine ⟨A, c, e, ?_⟩
  rcases hr with h | ⟨b, e2, hlt, hp, hc⟩
  · exact .inl h
  · refine .inr ⟨b, e2, hlt, hpq b hp hlt, fun i hi => ?_⟩
    obtain ⟨f, n, s, A', l, c', k0, k1, k2, k3, k4, ht⟩ := hc i hi
    exact ⟨f, n, s, A', l, c', k0, k1, k2, k3, k4, ht.bound.mono (fun b hb => hpq b hb.1 hb.2)⟩
theorem StrsAt.bnd {P Q : Nat → Prop} {w : World} {v : Value} {ss : List ByteArray} (h : StrsAt P w v ss) (hpq : ∀ b, P b → b < w.heap.size → Q b) : StrsAt Q w v ss := by
  obtain ⟨A, c, e, h1, h2, hr⟩ := h
  refine ⟨A, c, e, h1, h2, ?_⟩
  rcases hr with h | ⟨b, off, e2, hp, hlt, hc⟩
  · exact .inl h
  · exact .inr ⟨b, off, e2, hpq b hp hlt, hlt, hc⟩
/-- A scheme as a value: its variables and its predicates. -/
def SchP (fr : List ByteArray) (ps : List (ByteArray × Ty)) (P : Nat → Prop) (w : World) (v : Value) : Prop :=
  ∃ Av nv cv Ap cp f n s A l c, v = .agg #[.slice Av nv cv, .slice none 0 0, .slice Ap ps.length cp, .int .i64 f, .int .i64 n, .string s, .slice A l c] ∧ StrsAt P w (.slice Av nv cv) fr ∧ PsP P w ps (.slice Ap ps.length cp)
theorem SchP.keep {fr : List ByteArray} {ps : List (ByteArray × Ty)} {P : Nat → Prop} {w w' : World} {v : Value} (h : SchP fr ps P w v) (hb : Keeps P w w') : SchP fr ps P w' v := by
  obtain ⟨Av, nv, cv, Ap, cp, f, n, s, A, l, c, e, h1, h2⟩ := h
  exact ⟨Av, nv, cv, Ap, cp, f, n, s, A, l, c, e, h1.keep hb, h2.keep hb⟩
theorem SchP.bnd {fr : List ByteArray} {ps : List (ByteArray × Ty)} {P Q : Nat → Prop} {w : World} {v : Value} (h : SchP fr ps P w v) (hpq : ∀ b, P b → b < w.heap.size → Q b) : SchP fr ps Q w v := by
  obtain ⟨Av, nv, cv, Ap, cp, f, n, s, A, l, c, e, h1, h2⟩ := h
  exact ⟨Av, nv, cv, Ap, cp, f, n, s, A, l, c, e, h1.bnd hpq, h2.bnd hpq⟩
def e00 : Value := .agg #[.int .i64 0, .int .i64 0]
structure GTv (X : World) (x : Nat → Value) (q : World) : Prop where
  b : Below X.heap.size X q
  lt : ∀ b, x 10 = .pointer (some ⟨b, 0, none⟩) ∨ x 11 = .pointer (some ⟨b, 0, none⟩) → b < q.heap.size
theorem GTv.on {X q q1 : World} {x y : Nat → Value} (h : GTv X x q) (hb : Below q.heap.size q q1) (e : y 10 = x 10 := by rfl) (e2 : y 11 = x 11 := by rfl) : GTv X y q1 := ⟨h.b.trans (hb.mono h.b.size), fun b h2 => Nat.lt_of_lt_of_le (h.lt b (by rw [← e, ← e2]; exact h2)) hb.size⟩
theorem GTv.to {X q : World} {x y : Nat → Value} (h : GTv X x q) (e : y 10 = x 10 := by rfl) (e2 : y 11 = x 11 := by rfl) : GTv X y q := h.on (Below.refl _ _) e e2
theorem ptr_inj {a b : Nat} (h : Value.pointer (some ⟨a, 0, none⟩) = .pointer (some ⟨b, 0, none⟩)) : a = b := by
  injection h with h; injection h with h; injection h with h
theorem GTv.new10 {X q : World} {x y : Nat → Value} {o : Obj} (h : GTv X x q) (e : y 10 = .pointer (some ⟨q.heap.size, 0, none⟩)) (e2 : y 11 = x 11) : GTv X y (q.alloc o) := ⟨h.b.trans ((below_new q _).mono h.b.size), fun b hb => by
    have hs : (q.alloc o).heap.size = q.heap.size + 1 := by simp
    rcases hb with hb | hb
    · rw [e] at hb; have := ptr_inj hb; omega
    · rw [e2] at hb; have := h.lt b (.inr hb); omega⟩
theorem GTv.new11 {X q : World} {x y : Nat → Value} {o : Obj} (h : GTv X x q) (e : y 11 = .pointer (some ⟨q.heap.size, 0, none⟩)) (e2 : y 10 = x 10) : GTv X y (q.alloc o) := ⟨h.b.trans ((below_new q _).mono h.b.size), fun b hb => by
    have hs : (q.alloc o).heap.size = q.heap.size + 1 := by simp
    rcases hb with hb | hb
    · rw [e2] at hb; have := h.lt b (.inl hb); omega
    · rw [e] at hb; have := ptr_inj hb; omega⟩
def PTv (X : World) (x : Nat → Value) (b : Nat) : Prop := X.heap.size ≤ b ∧ x 10 ≠ .pointer (some ⟨b, 0, none⟩) ∧ x 11 ≠ .pointer (some ⟨b, 0, none⟩)
def RTv (X : World) (v vt : Value) (k : Nat) (C N : ByteArray) (fr : List ByteArray) (ps : List (ByteArray × Ty)) : Nat → (Nat → Value) → World → Prop
  | 0, x, _ => x 0 = v
  | 1, x, _ => x 1 = .int .i64 k
  | 2, x, _ => x 2 = .string C
  | 3, x, _ => x 3 = vt
  | 4, x, _ => x 4 = .string N
  | 5, x, _ => x 5 = .string (C ++ N)
  | 6, x, q => ∃ u, x 6 = .tuple #[u, e00] ∧ SchP fr ps (PTv X x) q u
  | 7, x, q => ∃ u, x 7 = .tuple #[u, e00] ∧ SchP fr ps (PTv X x) q u
  | 8, x, q => SchP fr ps (PTv X x) q (x 8)
  | 9, x, _ => x 9 = e00
  | 10, x, q => ∃ g c0 c1 c2 c3 c4 c5 c6, x 10 = .pointer (some ⟨g, 0, none⟩) ∧ X.heap.size ≤ g ∧ q.heap[g]? = some (.cells #[c0, c1, c2, c3, c4, c5, c6] 70)
  | 11, x, q => ∃ g c0 c1, x 11 = .pointer (some ⟨g, 0, none⟩) ∧ X.heap.size ≤ g ∧ q.heap[g]? = some (.cells #[c0, c1] 50)
  | 12, x, q => ∃ g c0 c1 c2 c3 c4 c5 c6, x 10 = .pointer (some ⟨g, 0, none⟩) ∧ q.heap[g]? = some (.cells #[c0, c1, c2, c3, c4, c5, c6] 70) ∧ x 8 = .agg #[c0, c1, c2, c3, c4, c5, c6]
  | _, _, _ => True
def FTv (X : World) (fr : List ByteArray) (ps : List (ByteArray × Ty)) (x : Nat → Value) (q : World) : Prop :=
  ∃ g g2 Av nv cv Ap cp f n s A l c, x 10 = .pointer (some ⟨g, 0, none⟩) ∧ x 11 = .pointer (some ⟨g2, 0, none⟩) ∧ q.heap[g]? = some (.cells #[.slice Av nv cv, .slice none 0 0, .slice Ap ps.length cp, .int .i64 f, .int .i64 n, .string s, .slice A l c] 70) ∧ q.heap[g2]? = some (.cells #[.int .i64 0, .int .i64 0] 50) ∧ StrsAt (fun _ => True) q (.slice Av nv cv) fr ∧ PsP (fun _ => True) q ps (.slice Ap ps.length cp) ∧ Below X.heap.size X q
theorem blk_on {q q1 : World} {g : Nat} {o : Obj} (h : q.heap[g]? = some o) (hb : Below q.heap.size q q1) : q1.heap[g]? = some o := (hb.block g (by
  by_cases h9 : g < q.heap.size
  · exact h9
  · rw [Array.getElem?_eq_none (Nat.le_of_not_lt h9)] at h; cases h)).trans h
theorem rtv_keep {X q q1 : World} {v vt u : Value} {k : Nat} {C N : ByteArray} {fr : List ByteArray} {ps : List (ByteArray × Ty)} {x : Nat → Value} {i j : Nat} (hb : Below q.heap.size q q1) (hj : j ≠ i) (hi : i ≠ 10) (hi1 : i ≠ 11) (hi2 : i ≠ 8 ∨ j ≠ 12) (h : RTv X v vt k C N fr ps j x q) : RTv X v vt k C N fr ps j (updV x i u) q1 := by
  have e : ∀ l, l ≠ i → updV x i u l = x l := fun l hl => if_neg hl
  have hP : PTv X (updV x i u) = PTv X x := by funext b; unfold PTv; rw [e 10 (Ne.symm hi), e 11 (Ne.symm hi1)]
  match j with
  | 0 => exact (e 0 hj).trans h
  | 1 => exact (e 1 hj).trans h
  | 2 => exact (e 2 hj).trans h
  | 3 => exact (e 3 hj).trans h
  | 4 => exact (e 4 hj).trans h
  | 5 => exact (e 5 hj).trans h
  | 6 => obtain ⟨a, h1, h2⟩ := h; exact ⟨a, (e 6 hj).trans h1, by rw [hP]; exact h2.keep (.of_below hb)⟩
  | 7 => obtain ⟨a, h1, h2⟩ := h; exact ⟨a, (e 7 hj).trans h1, by rw [hP]; exact h2.keep (.of_below hb)⟩
  | 8 => show SchP _ _ _ q1 (updV x i u 8); rw [e 8 hj, hP]; exact SchP.keep h (.of_below hb)
  | 9 => exact (e 9 hj).trans h
  | 10 => obtain ⟨g, c0, c1, c2, c3, c4, c5, c6, h1, h2, h3⟩ := h; exact ⟨g, c0, c1, c2, c3, c4, c5, c6, (e 10 hj).trans h1, h2, blk_on h3 hb⟩
  | 11 => obtain ⟨g, c0, c1, h1, h2, h3⟩ := h; exact ⟨g, c0, c1, (e 11 hj).trans h1, h2, blk_on h3 hb⟩
  | 12 => obtain ⟨g, c0, c1, c2, c3, c4, c5, c6, h1, h2, h3⟩ := h; exact ⟨g, c0, c1, c2, c3, c4, c5, c6, (e 10 (Ne.symm hi)).trans h1, blk_on h2 hb, (e 8 (fun e9 => (hi2.resolve_right (fun h9 => h9 rfl)) e9.symm)).trans h3⟩
  | l + 13 => exact trivial
theorem ptv_new {X q : World} {x : Nat → Value} {i : Nat} (hi : i = 10 ∨ i = 11) {b : Nat} (h : PTv X x b) (hb : b < q.heap.size) : PTv X (updV x i (.pointer (some ⟨q.heap.size, 0, none⟩))) b := by
  rcases hi with rfl | rfl
  · refine ⟨h.1, fun e => ?_, h.2.2⟩
    have : q.heap.size = b := ptr_inj e
    omega
  · refine ⟨h.1, h.2.1, fun e => ?_⟩
    have : q.heap.size = b := ptr_inj e
    omega
theorem rtv_new {X q : World} {v vt : Value} {k : Nat} {C N : ByteArray} {fr : List ByteArray} {ps : List (ByteArray × Ty)} {x : Nat → Value} {i j : Nat} {o : Obj} (hi : i = 10 ∨ i = 11) (hj : j ≠ i) (hj2 : j < 12) (h : RTv X v vt k C N fr ps j x q) : RTv X v vt k C N fr ps j (updV x i (.pointer (some ⟨q.heap.size, 0, none⟩))) (q.alloc o) := by
  have e : ∀ l, l ≠ i → updV x i (.pointer (some ⟨q.heap.size, 0, none⟩)) l = x l := fun l hl => if_neg hl
  have hb := below_new q o
  have hP : ∀ b, PTv X x b → b < q.heap.size → PTv X (updV x i (.pointer (some ⟨q.heap.size, 0, none⟩))) b := fun b => ptv_new hi
  match j with
  | 0 => exact (e 0 hj).trans h
  | 1 => exact (e 1 hj).trans h
  | 2 => exact (e 2 hj).trans h
  | 3 => exact (e 3 hj).trans h
  | 4 => exact (e 4 hj).trans h
  | 5 => exact (e 5 hj).trans h
  | 6 => obtain ⟨a, h1, h2⟩ := h; exact ⟨a, (e 6 hj).trans h1, (h2.bnd hP).keep (.of_below hb)⟩
  | 7 => obtain ⟨a, h1, h2⟩ := h; exact ⟨a, (e 7 hj).trans h1, (h2.bnd hP).keep (.of_below hb)⟩
  | 8 => show SchP _ _ _ _ (updV x i _ 8); rw [e 8 hj]; exact (SchP.bnd h hP).keep (.of_below hb)
  | 9 => exact (e 9 hj).trans h
  | 10 => obtain ⟨g, c0, c1, c2, c3, c4, c5, c6, h1, h2, h3⟩ := h; exact ⟨g, c0, c1, c2, c3, c4, c5, c6, (e 10 hj).trans h1, h2, blk_on h3 hb⟩
  | 11 => obtain ⟨g, c0, c1, h1, h2, h3⟩ := h; exact ⟨g, c0, c1, (e 11 hj).trans h1, h2, blk_on h3 hb⟩
  | l + 12 => omega
theorem heap_set (z : World) (b off : Nat) (cs : Array Value) (t : TypeId) (v : Value) (h : z.heap[b]? = some (.cells cs t)) : (z.setCell ⟨b, off, none⟩ v).heap[b]? = some (.cells (cs.setIfInBounds off v) t) := heap_setCell_same z b off cs t v h
/-- Seven stores into a block. -/
def put7 (w : World) (b : Nat) (x0 x1 x2 x3 x4 x5 x6 : Value) : World :=
  ((((((w.setCell ⟨b, 0, none⟩ x0).setCell ⟨b, 1, none⟩ x1).setCell ⟨b, 2, none⟩ x2).setCell ⟨b, 3, none⟩ x3).setCell ⟨b, 4, none⟩ x4).setCell ⟨b, 5, none⟩ x5).setCell ⟨b, 6, none⟩ x6
theorem put7_is {w : World} {b : Nat} {a0 a1 a2 a3 a4 a5 a6 : Value} {t : TypeId} (h : w.heap[b]? = some (.cells #[a0, a1, a2, a3, a4, a5, a6] t)) (x0 x1 x2 x3 x4 x5 x6 : Value) : (put7 w b x0 x1 x2 x3 x4 x5 x6).heap[b]? = some (.cells #[x0, x1, x2, x3, x4, x5, x6] t) := by
  have h0 : (w.setCell ⟨b, 0, none⟩ x0).heap[b]? = some (.cells #[x0, a1, a2, a3, a4, a5, a6] t) := heap_set w b 0 #[a0, a1, a2, a3, a4, a5, a6] t x0 h
  have h1 := heap_set _ b 1 #[x0, a1, a2, a3, a4, a5, a6] t x1 h0
  have h2 := heap_set _ b 2 #[x0, x1, a2, a3, a4, a5, a6] t x2 h1
  have h3 := heap_set _ b 3 #[x0, x1, x2, a3, a4, a5, a6] t x3 h2
  have h4 := heap_set _ b 4 #[x0, x1, x2, x3, a4, a5, a6] t x4 h3
  have h5 := heap_set _ b 5 #[x0, x1, x2, x3, x4, a5, a6] t x5 h4
  exact heap_set _ b 6 #[x0, x1, x2, x3, x4, x5, a6] t x6 h5
theorem put7_other {w : World} {b k : Nat} (hk : k ≠ b) (x0 x1 x2 x3 x4 x5 x6 : Value) : (put7 w b x0 x1 x2 x3 x4 x5 x6).heap[k]? = w.heap[k]? := by
  unfold put7
  rw [Below.heap_setCell _ _ _ _ hk, Below.heap_setCell _ _ _ _ hk, Below.heap_setCell _ _ _ _ hk, Below.heap_setCell _ _ _ _ hk, Below.heap_setCell _ _ _ _ hk, Below.heap_setCell _ _ _ _ hk, Below.heap_setCell _ _ _ _ hk]
theorem put7_size (w : World) (b : Nat) (x0 x1 x2 x3 x4 x5 x6 : Value) : (put7 w b x0 x1 x2 x3 x4 x5 x6).heap.size = w.heap.size := by simp [put7]
theorem put7_keeps {P : Nat → Prop} {w : World} {b : Nat} (h : ¬ P b) (x0 x1 x2 x3 x4 x5 x6 : Value) : Keeps P w (put7 w b x0 x1 x2 x3 x4 x5 x6) := by
  refine ⟨Nat.le_of_eq (put7_size ..).symm, fun k off hp _ => ?_⟩
  exact World.cell?_of_block (a := ⟨k, off, none⟩) (put7_other (fun e => h (by rw [← e]; exact hp)) ..)
theorem put7_below {B : Nat} {w w' : World} {b : Nat} (h : Below B w w') (hb : B ≤ b) (x0 x1 x2 x3 x4 x5 x6 : Value) : Below B w (put7 w' b x0 x1 x2 x3 x4 x5 x6) := by
  unfold put7
  exact ((((((h.setCell hb _).setCell hb _).setCell hb _).setCell hb _).setCell hb _).setCell hb _).setCell hb _
theorem rtv_store {X q : World} {v vt u : Value} {k : Nat} {C N : ByteArray} {fr : List ByteArray} {ps : List (ByteArray × Ty)} {x : Nat → Value} {j g : Nat} {a0 a1 a2 a3 a4 a5 a6 : Value} (hj : j < 12) (e10 : x 10 = .pointer (some ⟨g, 0, none⟩)) (hg : q.heap[g]? = some (.cells #[a0, a1, a2, a3, a4, a5, a6] 70)) (x0 x1 x2 x3 x4 x5 x6 : Value) (h : RTv X v vt k C N fr ps j x q) : RTv X v vt k C N fr ps j (updV x 12 u) (put7 q g x0 x1 x2 x3 x4 x5 x6) := by
  have hk : Keeps (PTv X x) q (put7 q g x0 x1 x2 x3 x4 x5 x6) := put7_keeps (fun hp => hp.2.1 e10) ..
  match j with
  | 0 => exact h
  | 1 => exact h
  | 2 => exact h
  | 3 => exact h
  | 4 => exact h
  | 5 => exact h
  | 6 => obtain ⟨a, h1, h2⟩ := h; exact ⟨a, h1, SchP.keep h2 hk⟩
  | 7 => obtain ⟨a, h1, h2⟩ := h; exact ⟨a, h1, SchP.keep h2 hk⟩
  | 8 => exact SchP.keep h hk
  | 9 => exact h
  | 10 => obtain ⟨g2, c0, c1, c2, c3, c4, c5, c6, h1, h2, h3⟩ := h
          obtain rfl : g = g2 := ptr_inj (e10.symm.trans h1)
          exact ⟨g, _, _, _, _, _, _, _, h1, h2, put7_is hg ..⟩
  | 11 => obtain ⟨g2, c0, c1, h1, h2, h3⟩ := h
          have hne : g2 ≠ g := fun e => by rw [e, hg] at h3; injection h3 with h3; injection h3 with _ h3; cases h3
          exact ⟨g2, c0, c1, h1, h2, (put7_other hne ..).trans h3⟩
  | l + 12 => omega
set_option maxRecDepth 100000 in
set_option maxHeartbeats 1000000 in
theorem tvars_reg3 {V : World} {f1 n1 : Int} {s1 C N : ByteArray} {A0 A1 : Option Addr} {l0 c0 l1 c1 g1 k : Nat} {fr : List ByteArray} {ps : List (ByteArray × Ty)} (HQ : Hid (Box4 V g1 (.int .i64 f1) (.int .i64 n1) (.string s1) (.slice A1 l1 c1))) (HC : Hid (∀ q, Below V.heap.size V q → Calls Tryd.prog 50 #[.slice A0 l0 c0, .int .i64 k] q fun e q1 => e = .returned (.string C) ∧ Below q.heap.size q q1)) (HP : Hid (∀ q, Below V.heap.size V q → Calls Tryd.prog 31 #[.agg #[.int .i64 f1, .int .i64 n1, .string s1, .slice A1 l1 c1]] q fun e q1 => e = .returned (.string N) ∧ Below q.heap.size q q1)) (hadd : ∀ q : World, (Op.stringOp .add C N).run Tryd.prog q = .ok (.string (C ++ N)) q) (HR : Hid (∀ q, Below V.heap.size V q → Calls Tryd.prog 49 #[.string (C ++ N)] q fun e q1 => (∃ u, e = .returned (.tuple #[u, e00]) ∧ SchP fr ps (fun b => q.heap.size ≤ b) q1 u) ∧ Below q.heap.size q q1)) {Q : Exit → Act → World → Prop} {ds : List Deferred} {r1 r2 r3 r4 r9 r10 r11 r12 r13 r14 r15 r16 r17 r18 r19 r20 r21 r22 r23 r24 r25 r26 r27 r28 r29 r30 r31 r32 r33 r34 r35 r36 r37 r38 r39 r40 r41 r42 r43 r44 r45 r46 r47 r48 r49 r50 r51 r52 r53 r54 r55 r56 r57 r58 r59 r60 r61 r62 r63 r64 r65 r66 r67 r68 r69 r70 r71 r72 r73 r74 r75 r76 r77 r78 r79 r80 r81 r82 r83 r84 r85 r86 r87 r88 r89 r90 r91 r92 r93 r94 r95 r96 : Value}
    (hf : ∀ (x0 x1 x2 x3 x4 x5 x6 x7 x8 x9 x10 x11 : Value) (q : World), (∃ g g2 Av nv cv Ap cp f n s A l c, x10 = .pointer (some ⟨g, 0, none⟩) ∧ x11 = .pointer (some ⟨g2, 0, none⟩) ∧ q.heap[g]? = some (.cells #[.slice Av nv cv, .slice none 0 0, .slice Ap ps.length cp, .int .i64 f, .int .i64 n, .string s, .slice A l c] 70) ∧ q.heap[g2]? = some (.cells #[.int .i64 0, .int .i64 0] 50) ∧ StrsAt (fun _ => True) q (.slice Av nv cv) fr ∧ PsP (fun _ => True) q ps (.slice Ap ps.length cp) ∧ Below V.heap.size V q) → Q .normal ⟨#[.slice A0 l0 c0, r1, r2, r3, r4, .int .i64 k, .pointer (some ⟨g1, 0, none⟩), x10, x11, r9, r10, r11, r12, r13, r14, r15, r16, x7, x0, x1, x2, x3, x4, x5, x6, x8, x9, r27, r28, r29, r30, r31, r32, r33, r34, r35, r36, r37, r38, r39, r40, r41, r42, r43, r44, r45, r46, r47, r48, r49, r50, r51, r52, r53, r54, r55, r56, r57, r58, r59, r60, r61, r62, r63, r64, r65, r66, r67, r68, r69, r70, r71, r72, r73, r74, r75, r76, r77, r78, r79, r80, r81, r82, r83, r84, r85, r86, r87, r88, r89, r90, r91, r92, r93, r94, r95, r96], ds⟩ q) :
    Code.wp Tryd.prog (Code.region 3 #[{ dst := some 18, op := Op.move (Operand.tmp 0), type := 22, pos := "law.go:127", after := #[], guard := none }, { dst := some 19, op := Op.move (Operand.tmp 5), type := 3, pos := "law.go:127", after := #[], guard := none }, { dst := some 20, op := Op.call { callee := Callee.value (Operand.func 50), args := #[Operand.tmp 18, Operand.tmp 19], argTypes := #[22, 3] }, type := 9, pos := "law.go:127", after := #[{ on := 0, ground := Ground.data }, { on := 1, ground := Ground.data }], guard := none }, { dst := some 21, op := Op.load 25 (Operand.tmp 6), type := 25, pos := "law.go:127", after := #[], guard := none }, { dst := some 22, op := Op.call { callee := Callee.value (Operand.func 31), args := #[Operand.tmp 21], argTypes := #[25] }, type := 9, pos := "law.go:127", after := #[{ on := 3, ground := Ground.data }, { on := 2, ground := Ground.chain }], guard := none }, { dst := some 23, op := Op.binOp BinOp.add 9 (Operand.tmp 20) (Operand.tmp 22) 9, type := 9, pos := "law.go:127", after := #[{ on := 2, ground := Ground.data }, { on := 4, ground := Ground.data }], guard := none }, { dst := some 24, op := Op.call { callee := Callee.value (Operand.func 49), args := #[Operand.tmp 23], argTypes := #[9] }, type := 77, pos := "law.go:127", after := #[{ on := 5, ground := Ground.data }, { on := 4, ground := Ground.chain }], guard := none }, { dst := some 17, op := Op.move (Operand.tmp 24), type := 77, pos := "law.go:127", after := #[{ on := 6, ground := Ground.data }], guard := none }, { dst := some 25, op := Op.extract (Operand.tmp 17) 0, type := 70, pos := "law.go:127", after := #[{ on := 7, ground := Ground.data }], guard := none }, { dst := some 26, op := Op.extract (Operand.tmp 17) 1, type := 50, pos := "law.go:127", after := #[{ on := 7, ground := Ground.data }, { on := 12, ground := Ground.gcOnly Departure.lateStores }], guard := none }, { dst := some 7, op := Op.alloc 70, type := 0, pos := "law.go:127", after := #[], guard := none }, { dst := some 8, op := Op.alloc 50, type := 0, pos := "law.go:127", after := #[], guard := none }, { dst := none, op := Op.store 70 (Operand.tmp 7) (Operand.tmp 25), type := 0, pos := "law.go:127", after := #[{ on := 10, ground := Ground.data }, { on := 8, ground := Ground.data }, { on := 6, ground := Ground.chain }, { on := 0, ground := Ground.phase }, { on := 1, ground := Ground.phase }, { on := 2, ground := Ground.phase }, { on := 3, ground := Ground.phase }, { on := 4, ground := Ground.phase }, { on := 5, ground := Ground.phase }, { on := 6, ground := Ground.phase }, { on := 7, ground := Ground.phase }, { on := 8, ground := Ground.phase }, { on := 9, ground := Ground.textOnly Departure.lateStores }, { on := 10, ground := Ground.phase }, { on := 11, ground := Ground.phase }], guard := none }, { dst := none, op := Op.store 50 (Operand.tmp 8) (Operand.tmp 26), type := 0, pos := "law.go:127", after := #[{ on := 11, ground := Ground.data }, { on := 9, ground := Ground.data }, { on := 12, ground := Ground.chain }, { on := 0, ground := Ground.phase }, { on := 1, ground := Ground.phase }, { on := 2, ground := Ground.phase }, { on := 3, ground := Ground.phase }, { on := 4, ground := Ground.phase }, { on := 5, ground := Ground.phase }, { on := 6, ground := Ground.phase }, { on := 7, ground := Ground.phase }, { on := 8, ground := Ground.phase }, { on := 9, ground := Ground.phase }, { on := 10, ground := Ground.phase }, { on := 11, ground := Ground.phase }, { on := 12, ground := Ground.phase }], guard := none }] true) Q ⟨#[.slice A0 l0 c0, r1, r2, r3, r4, .int .i64 k, .pointer (some ⟨g1, 0, none⟩), undef, undef, r9, r10, r11, r12, r13, r14, r15, r16, r17, r18, r19, r20, r21, r22, r23, r24, r25, r26, r27, r28, r29, r30, r31, r32, r33, r34, r35, r36, r37, r38, r39, r40, r41, r42, r43, r44, r45, r46, r47, r48, r49, r50, r51, r52, r53, r54, r55, r56, r57, r58, r59, r60, r61, r62, r63, r64, r65, r66, r67, r68, r69, r70, r71, r72, r73, r74, r75, r76, r77, r78, r79, r80, r81, r82, r83, r84, r85, r86, r87, r88, r89, r90, r91, r92, r93, r94, r95, r96], ds⟩ V := by
  refine wp_region_rel (m := 13) (o := ⟨none, _, _, _, _, _⟩) (D := [some 18, some 19, some 20, some 21, some 22, some 23, some 24, some 17, some 25, some 26, some 7, some 8, none, none]) (G := GTv V) (R := RTv V (.slice A0 l0 c0) (.agg #[.int .i64 f1, .int .i64 n1, .string s1, .slice A1 l1 c1]) k C N fr ps) (FTv V fr ps) V (by kernel_rfl) (by kernel_rfl) (by kernel_rfl) (by rfl) (by kernel_rfl) (by kernel_rfl) (by kernel_rfl) ?_ ?_ ?_ ?_
  · intro x hx
    have h4 := hx 10 7 rfl
    have h5 := hx 11 8 rfl
    exact ⟨(Below.refl _ V).drew, fun b hb => by rw [h4, h5] at hb; rcases hb with hb | hb <;> cases hb⟩
  · show StepsI _ _ _ _ _ _ _ _ [0, 1, 2, 3, 4, 5, 6, 7, 8, 9, 10, 11, 12]
    refine .cons (o := ⟨some 18, _, _, _, _, _⟩) (ds := []) (js := [1, 3, 4, 5, 6, 7, 8, 9, 10, 11]) rfl (by kernel_rfl) (by kernel_rfl) ?_ ?_
    · intro x q hG hd K hK
      refine HidG.mk ?_
      simp only [putsA, Act.put, List.setIfInBounds_toArray, List.set_cons_zero, List.set_cons_succ, Nat.reduceAdd, Nat.zero_add] at hK ⊢
      go_simp
      refine hK _ _ hG.to (fun j hj h => ?_) rfl
      · simp only [List.mem_cons, List.not_mem_nil, or_false] at hj
        rcases hj with rfl | rfl | rfl | rfl | rfl | rfl | rfl | rfl | rfl | rfl
        · exact rtv_keep (Below.refl _ _) (by decide) (by decide) (by decide) (by decide) h
        · exact rtv_keep (Below.refl _ _) (by decide) (by decide) (by decide) (by decide) h
        · exact rtv_keep (Below.refl _ _) (by decide) (by decide) (by decide) (by decide) h
        · exact rtv_keep (Below.refl _ _) (by decide) (by decide) (by decide) (by decide) h
        · exact rtv_keep (Below.refl _ _) (by decide) (by decide) (by decide) (by decide) h
        · exact rtv_keep (Below.refl _ _) (by decide) (by decide) (by decide) (by decide) h
        · exact rtv_keep (Below.refl _ _) (by decide) (by decide) (by decide) (by decide) h
        · exact rtv_keep (Below.refl _ _) (by decide) (by decide) (by decide) (by decide) h
        · exact rtv_keep (Below.refl _ _) (by decide) (by decide) (by decide) (by decide) h
        · exact rtv_keep (Below.refl _ _) (by decide) (by decide) (by decide) (by decide) h
    refine .cons (o := ⟨some 19, _, _, _, _, _⟩) (ds := []) (js := [0, 3, 4, 5, 6, 7, 8, 9, 10, 11]) rfl (by kernel_rfl) (by kernel_rfl) ?_ ?_
    · intro x q hG hd K hK
      refine HidG.mk ?_
      simp only [putsA, Act.put, List.setIfInBounds_toArray, List.set_cons_zero, List.set_cons_succ, Nat.reduceAdd, Nat.zero_add] at hK ⊢
      go_simp
      refine hK _ _ hG.to (fun j hj h => ?_) rfl
      · simp only [List.mem_cons, List.not_mem_nil, or_false] at hj
        rcases hj with rfl | rfl | rfl | rfl | rfl | rfl | rfl | rfl | rfl | rfl
        · exact rtv_keep (Below.refl _ _) (by decide) (by decide) (by decide) (by decide) h
        · exact rtv_keep (Below.refl _ _) (by decide) (by decide) (by decide) (by decide) h
        · exact rtv_keep (Below.refl _ _) (by decide) (by decide) (by decide) (by decide) h
        · exact rtv_keep (Below.refl _ _) (by decide) (by decide) (by decide) (by decide) h
        · exact rtv_keep (Below.refl _ _) (by decide) (by decide) (by decide) (by decide) h
        · exact rtv_keep (Below.refl _ _) (by decide) (by decide) (by decide) (by decide) h
        · exact rtv_keep (Below.refl _ _) (by decide) (by decide) (by decide) (by decide) h
        · exact rtv_keep (Below.refl _ _) (by decide) (by decide) (by decide) (by decide) h
        · exact rtv_keep (Below.refl _ _) (by decide) (by decide) (by decide) (by decide) h
        · exact rtv_keep (Below.refl _ _) (by decide) (by decide) (by decide) (by decide) h
    refine .cons (o := ⟨some 20, _, _, _, _, _⟩) (ds := [0, 1]) (js := [0, 1, 3, 6, 7, 8, 9, 10, 11]) rfl (by kernel_rfl) (by kernel_rfl) ?_ ?_
    · intro x q hG hd K hK
      have hG2 : Below V.heap.size V q := hG.b
      have d0 : x 0 = .slice A0 l0 c0 := hd 0 (by simp)
      have d1 : x 1 = .int .i64 k := hd 1 (by simp)
      refine HidG.mk ?_
      simp only [putsA, Act.put, List.setIfInBounds_toArray, List.set_cons_zero, List.set_cons_succ, Nat.reduceAdd, Nat.zero_add] at hK ⊢
      rw [d0, d1] at hK ⊢
      go_simp
      (with_reducible refine (HC.out _ hG2).mono ?_)
      rintro e q1 ⟨rfl, hb⟩
      refine hK _ _ (hG.on hb) (fun j hj h => ?_) rfl
      · simp only [List.mem_cons, List.not_mem_nil, or_false] at hj
        rcases hj with rfl | rfl | rfl | rfl | rfl | rfl | rfl | rfl | rfl
        · exact rtv_keep hb (by decide) (by decide) (by decide) (by decide) h
        · exact rtv_keep hb (by decide) (by decide) (by decide) (by decide) h
        · exact rtv_keep hb (by decide) (by decide) (by decide) (by decide) h
        · exact rtv_keep hb (by decide) (by decide) (by decide) (by decide) h
        · exact rtv_keep hb (by decide) (by decide) (by decide) (by decide) h
        · exact rtv_keep hb (by decide) (by decide) (by decide) (by decide) h
        · exact rtv_keep hb (by decide) (by decide) (by decide) (by decide) h
        · exact rtv_keep hb (by decide) (by decide) (by decide) (by decide) h
        · exact rtv_keep hb (by decide) (by decide) (by decide) (by decide) h
    refine .cons (o := ⟨some 21, _, _, _, _, _⟩) (ds := []) (js := [0, 1, 2, 5, 6, 7, 8, 9, 10, 11]) rfl (by kernel_rfl) (by kernel_rfl) ?_ ?_
    · intro x q hG hd K hK
      have hbx := HQ.out.on hG.b
      have k0 := hbx.2.1
      have k1 := hbx.2.2.1
      have k2 := hbx.2.2.2.1
      have k3 := hbx.2.2.2.2.1
      clear hbx
      refine HidG.mk ?_
      simp only [putsA, Act.put, List.setIfInBounds_toArray, List.set_cons_zero, List.set_cons_succ, Nat.reduceAdd, Nat.zero_add] at hK ⊢
      go_simp
      refine hK _ _ hG.to (fun j hj h => ?_) rfl
      · simp only [List.mem_cons, List.not_mem_nil, or_false] at hj
        rcases hj with rfl | rfl | rfl | rfl | rfl | rfl | rfl | rfl | rfl | rfl
        · exact rtv_keep (Below.refl _ _) (by decide) (by decide) (by decide) (by decide) h
        · exact rtv_keep (Below.refl _ _) (by decide) (by decide) (by decide) (by decide) h
        · exact rtv_keep (Below.refl _ _) (by decide) (by decide) (by decide) (by decide) h
        · exact rtv_keep (Below.refl _ _) (by decide) (by decide) (by decide) (by decide) h
        · exact rtv_keep (Below.refl _ _) (by decide) (by decide) (by decide) (by decide) h
        · exact rtv_keep (Below.refl _ _) (by decide) (by decide) (by decide) (by decide) h
        · exact rtv_keep (Below.refl _ _) (by decide) (by decide) (by decide) (by decide) h
        · exact rtv_keep (Below.refl _ _) (by decide) (by decide) (by decide) (by decide) h
        · exact rtv_keep (Below.refl _ _) (by decide) (by decide) (by decide) (by decide) h
        · exact rtv_keep (Below.refl _ _) (by decide) (by decide) (by decide) (by decide) h
    refine .cons (o := ⟨some 22, _, _, _, _, _⟩) (ds := [3, 2]) (js := [0, 1, 2, 3, 7, 8, 9, 10, 11]) rfl (by kernel_rfl) (by kernel_rfl) ?_ ?_
    · intro x q hG hd K hK
      have hG2 : Below V.heap.size V q := hG.b
      have d0 : x 3 = .agg #[.int .i64 f1, .int .i64 n1, .string s1, .slice A1 l1 c1] := hd 3 (by simp)
      refine HidG.mk ?_
      simp only [putsA, Act.put, List.setIfInBounds_toArray, List.set_cons_zero, List.set_cons_succ, Nat.reduceAdd, Nat.zero_add] at hK ⊢
      rw [d0] at hK ⊢
      go_simp
      (with_reducible refine (HP.out _ hG2).mono ?_)
      rintro e q1 ⟨rfl, hb⟩
      refine hK _ _ (hG.on hb) (fun j hj h => ?_) rfl
      · simp only [List.mem_cons, List.not_mem_nil, or_false] at hj
        rcases hj with rfl | rfl | rfl | rfl | rfl | rfl | rfl | rfl | rfl
        · exact rtv_keep hb (by decide) (by decide) (by decide) (by decide) h
        · exact rtv_keep hb (by decide) (by decide) (by decide) (by decide) h
        · exact rtv_keep hb (by decide) (by decide) (by decide) (by decide) h
        · exact rtv_keep hb (by decide) (by decide) (by decide) (by decide) h
        · exact rtv_keep hb (by decide) (by decide) (by decide) (by decide) h
        · exact rtv_keep hb (by decide) (by decide) (by decide) (by decide) h
        · exact rtv_keep hb (by decide) (by decide) (by decide) (by decide) h
        · exact rtv_keep hb (by decide) (by decide) (by decide) (by decide) h
        · exact rtv_keep hb (by decide) (by decide) (by decide) (by decide) h
    refine .cons (o := ⟨some 23, _, _, _, _, _⟩) (ds := [2, 4]) (js := [0, 1, 2, 3, 4, 7, 8, 9, 10, 11]) rfl (by kernel_rfl) (by kernel_rfl) ?_ ?_
    · intro x q hG hd K hK
      have d0 : x 2 = .string C := hd 2 (by simp)
      have d1 : x 4 = .string N := hd 4 (by simp)
      refine HidG.mk ?_
      simp only [putsA, Act.put, List.setIfInBounds_toArray, List.set_cons_zero, List.set_cons_succ, Nat.reduceAdd, Nat.zero_add] at hK ⊢
      rw [d0, d1] at hK ⊢
      go_simp
      refine hK _ _ hG.to (fun j hj h => ?_) rfl
      · simp only [List.mem_cons, List.not_mem_nil, or_false] at hj
        rcases hj with rfl | rfl | rfl | rfl | rfl | rfl | rfl | rfl | rfl | rfl
        · exact rtv_keep (Below.refl _ _) (by decide) (by decide) (by decide) (by decide) h
        · exact rtv_keep (Below.refl _ _) (by decide) (by decide) (by decide) (by decide) h
        · exact rtv_keep (Below.refl _ _) (by decide) (by decide) (by decide) (by decide) h
        · exact rtv_keep (Below.refl _ _) (by decide) (by decide) (by decide) (by decide) h
        · exact rtv_keep (Below.refl _ _) (by decide) (by decide) (by decide) (by decide) h
        · exact rtv_keep (Below.refl _ _) (by decide) (by decide) (by decide) (by decide) h
        · exact rtv_keep (Below.refl _ _) (by decide) (by decide) (by decide) (by decide) h
        · exact rtv_keep (Below.refl _ _) (by decide) (by decide) (by decide) (by decide) h
        · exact rtv_keep (Below.refl _ _) (by decide) (by decide) (by decide) (by decide) h
        · exact rtv_keep (Below.refl _ _) (by decide) (by decide) (by decide) (by decide) h
    refine .cons (o := ⟨some 24, _, _, _, _, _⟩) (ds := [5, 4]) (js := [0, 1, 2, 3, 4, 5, 8, 9, 10, 11]) rfl (by kernel_rfl) (by kernel_rfl) ?_ ?_
    · intro x q hG hd K hK
      have hG2 : Below V.heap.size V q := hG.b
      have d0 : x 5 = .string (C ++ N) := hd 5 (by simp)
      refine HidG.mk ?_
      simp only [putsA, Act.put, List.setIfInBounds_toArray, List.set_cons_zero, List.set_cons_succ, Nat.reduceAdd, Nat.zero_add] at hK ⊢
      rw [d0] at hK ⊢
      go_simp
      (with_reducible refine (HR.out _ hG2).mono ?_)
      rintro e q1 ⟨⟨u, rfl, hu⟩, hb⟩
      refine hK _ _ (hG.on hb) (fun j hj h => ?_) (by exact ⟨u, rfl, hu.bnd (fun b h1 _ => ⟨Nat.le_trans hG2.size h1, fun e => absurd (hG.lt b (.inl e)) (Nat.not_lt.2 h1), fun e => absurd (hG.lt b (.inr e)) (Nat.not_lt.2 h1)⟩)⟩)
      · simp only [List.mem_cons, List.not_mem_nil, or_false] at hj
        rcases hj with rfl | rfl | rfl | rfl | rfl | rfl | rfl | rfl | rfl | rfl
        · exact rtv_keep hb (by decide) (by decide) (by decide) (by decide) h
        · exact rtv_keep hb (by decide) (by decide) (by decide) (by decide) h
        · exact rtv_keep hb (by decide) (by decide) (by decide) (by decide) h
        · exact rtv_keep hb (by decide) (by decide) (by decide) (by decide) h
        · exact rtv_keep hb (by decide) (by decide) (by decide) (by decide) h
        · exact rtv_keep hb (by decide) (by decide) (by decide) (by decide) h
        · exact rtv_keep hb (by decide) (by decide) (by decide) (by decide) h
        · exact rtv_keep hb (by decide) (by decide) (by decide) (by decide) h
        · exact rtv_keep hb (by decide) (by decide) (by decide) (by decide) h
        · exact rtv_keep hb (by decide) (by decide) (by decide) (by decide) h
    refine .cons (o := ⟨some 17, _, _, _, _, _⟩) (ds := [6]) (js := [0, 1, 2, 3, 4, 5, 6, 10, 11]) rfl (by kernel_rfl) (by kernel_rfl) ?_ ?_
    · intro x q hG hd K hK
      have d0 : ∃ u, x 6 = .tuple #[u, e00] ∧ SchP fr ps (PTv V x) q u := hd 6 (by simp)
      obtain ⟨u, d0, d1⟩ := d0
      refine HidG.mk ?_
      simp only [putsA, Act.put, List.setIfInBounds_toArray, List.set_cons_zero, List.set_cons_succ, Nat.reduceAdd, Nat.zero_add] at hK ⊢
      rw [d0] at hK ⊢
      go_simp
      refine hK _ _ hG.to (fun j hj h => ?_) (by exact ⟨u, rfl, d1⟩)
      · simp only [List.mem_cons, List.not_mem_nil, or_false] at hj
        rcases hj with rfl | rfl | rfl | rfl | rfl | rfl | rfl | rfl | rfl
        · exact rtv_keep (Below.refl _ _) (by decide) (by decide) (by decide) (by decide) h
        · exact rtv_keep (Below.refl _ _) (by decide) (by decide) (by decide) (by decide) h
        · exact rtv_keep (Below.refl _ _) (by decide) (by decide) (by decide) (by decide) h
        · exact rtv_keep (Below.refl _ _) (by decide) (by decide) (by decide) (by decide) h
        · exact rtv_keep (Below.refl _ _) (by decide) (by decide) (by decide) (by decide) h
        · exact rtv_keep (Below.refl _ _) (by decide) (by decide) (by decide) (by decide) h
        · exact rtv_keep (Below.refl _ _) (by decide) (by decide) (by decide) (by decide) h
        · exact rtv_keep (Below.refl _ _) (by decide) (by decide) (by decide) (by decide) h
        · exact rtv_keep (Below.refl _ _) (by decide) (by decide) (by decide) (by decide) h
    refine .cons (o := ⟨some 25, _, _, _, _, _⟩) (ds := [7]) (js := [0, 1, 2, 3, 4, 5, 6, 7, 9, 10, 11]) rfl (by kernel_rfl) (by kernel_rfl) ?_ ?_
    · intro x q hG hd K hK
      have d0 : ∃ u, x 7 = .tuple #[u, e00] ∧ SchP fr ps (PTv V x) q u := hd 7 (by simp)
      obtain ⟨u, d0, d1⟩ := d0
      refine HidG.mk ?_
      simp only [putsA, Act.put, List.setIfInBounds_toArray, List.set_cons_zero, List.set_cons_succ, Nat.reduceAdd, Nat.zero_add] at hK ⊢
      rw [d0] at hK ⊢
      go_simp
      refine hK _ _ hG.to (fun j hj h => ?_) (by exact d1)
      · simp only [List.mem_cons, List.not_mem_nil, or_false] at hj
        rcases hj with rfl | rfl | rfl | rfl | rfl | rfl | rfl | rfl | rfl | rfl | rfl
        · exact rtv_keep (Below.refl _ _) (by decide) (by decide) (by decide) (by decide) h
        · exact rtv_keep (Below.refl _ _) (by decide) (by decide) (by decide) (by decide) h
        · exact rtv_keep (Below.refl _ _) (by decide) (by decide) (by decide) (by decide) h
        · exact rtv_keep (Below.refl _ _) (by decide) (by decide) (by decide) (by decide) h
        · exact rtv_keep (Below.refl _ _) (by decide) (by decide) (by decide) (by decide) h
        · exact rtv_keep (Below.refl _ _) (by decide) (by decide) (by decide) (by decide) h
        · exact rtv_keep (Below.refl _ _) (by decide) (by decide) (by decide) (by decide) h
        · exact rtv_keep (Below.refl _ _) (by decide) (by decide) (by decide) (by decide) h
        · exact rtv_keep (Below.refl _ _) (by decide) (by decide) (by decide) (by decide) h
        · exact rtv_keep (Below.refl _ _) (by decide) (by decide) (by decide) (by decide) h
        · exact rtv_keep (Below.refl _ _) (by decide) (by decide) (by decide) (by decide) h
    refine .cons (o := ⟨some 26, _, _, _, _, _⟩) (ds := [7]) (js := [0, 1, 2, 3, 4, 5, 6, 7, 8, 10, 11, 12]) rfl (by kernel_rfl) (by kernel_rfl) ?_ ?_
    · intro x q hG hd K hK
      have d0 : ∃ u, x 7 = .tuple #[u, e00] ∧ SchP fr ps (PTv V x) q u := hd 7 (by simp)
      obtain ⟨u, d0, d1⟩ := d0
      refine HidG.mk ?_
      simp only [putsA, Act.put, List.setIfInBounds_toArray, List.set_cons_zero, List.set_cons_succ, Nat.reduceAdd, Nat.zero_add] at hK ⊢
      rw [d0] at hK ⊢
      go_simp
      refine hK _ _ hG.to (fun j hj h => ?_) rfl
      · simp only [List.mem_cons, List.not_mem_nil, or_false] at hj
        rcases hj with rfl | rfl | rfl | rfl | rfl | rfl | rfl | rfl | rfl | rfl | rfl | rfl
        · exact rtv_keep (Below.refl _ _) (by decide) (by decide) (by decide) (by decide) h
        · exact rtv_keep (Below.refl _ _) (by decide) (by decide) (by decide) (by decide) h
        · exact rtv_keep (Below.refl _ _) (by decide) (by decide) (by decide) (by decide) h
        · exact rtv_keep (Below.refl _ _) (by decide) (by decide) (by decide) (by decide) h
        · exact rtv_keep (Below.refl _ _) (by decide) (by decide) (by decide) (by decide) h
        · exact rtv_keep (Below.refl _ _) (by decide) (by decide) (by decide) (by decide) h
        · exact rtv_keep (Below.refl _ _) (by decide) (by decide) (by decide) (by decide) h
        · exact rtv_keep (Below.refl _ _) (by decide) (by decide) (by decide) (by decide) h
        · exact rtv_keep (Below.refl _ _) (by decide) (by decide) (by decide) (by decide) h
        · exact rtv_keep (Below.refl _ _) (by decide) (by decide) (by decide) (by decide) h
        · exact rtv_keep (Below.refl _ _) (by decide) (by decide) (by decide) (by decide) h
        · exact rtv_keep (Below.refl _ _) (by decide) (by decide) (by decide) (by decide) h
    refine .cons (o := ⟨some 7, _, _, _, _, _⟩) (ds := []) (js := [0, 1, 2, 3, 4, 5, 6, 7, 8, 9, 11]) rfl (by kernel_rfl) (by kernel_rfl) ?_ ?_
    · intro x q hG hd K hK
      refine HidG.mk ?_
      simp only [putsA, Act.put, List.setIfInBounds_toArray, List.set_cons_zero, List.set_cons_succ, Nat.reduceAdd, Nat.zero_add] at hK ⊢
      go_simp
      refine hK _ _ (by exact hG.new10 rfl rfl) (fun j hj h => ?_) (by exact ⟨_, _, _, _, _, _, _, _, rfl, hG.b.size, (MapKept.heap_alloc q _).1⟩)
      · simp only [List.mem_cons, List.not_mem_nil, or_false] at hj
        rcases hj with rfl | rfl | rfl | rfl | rfl | rfl | rfl | rfl | rfl | rfl | rfl
        · exact rtv_new (by decide) (by decide) (by decide) h
        · exact rtv_new (by decide) (by decide) (by decide) h
        · exact rtv_new (by decide) (by decide) (by decide) h
        · exact rtv_new (by decide) (by decide) (by decide) h
        · exact rtv_new (by decide) (by decide) (by decide) h
        · exact rtv_new (by decide) (by decide) (by decide) h
        · exact rtv_new (by decide) (by decide) (by decide) h
        · exact rtv_new (by decide) (by decide) (by decide) h
        · exact rtv_new (by decide) (by decide) (by decide) h
        · exact rtv_new (by decide) (by decide) (by decide) h
        · exact rtv_new (by decide) (by decide) (by decide) h
    refine .cons (o := ⟨some 8, _, _, _, _, _⟩) (ds := []) (js := [0, 1, 2, 3, 4, 5, 6, 7, 8, 9, 10]) rfl (by kernel_rfl) (by kernel_rfl) ?_ ?_
    · intro x q hG hd K hK
      refine HidG.mk ?_
      simp only [putsA, Act.put, List.setIfInBounds_toArray, List.set_cons_zero, List.set_cons_succ, Nat.reduceAdd, Nat.zero_add] at hK ⊢
      go_simp
      refine hK _ _ (by exact hG.new11 rfl rfl) (fun j hj h => ?_) (by exact ⟨_, _, _, rfl, hG.b.size, (MapKept.heap_alloc q _).1⟩)
      · simp only [List.mem_cons, List.not_mem_nil, or_false] at hj
        rcases hj with rfl | rfl | rfl | rfl | rfl | rfl | rfl | rfl | rfl | rfl | rfl
        · exact rtv_new (by decide) (by decide) (by decide) h
        · exact rtv_new (by decide) (by decide) (by decide) h
        · exact rtv_new (by decide) (by decide) (by decide) h
        · exact rtv_new (by decide) (by decide) (by decide) h
        · exact rtv_new (by decide) (by decide) (by decide) h
        · exact rtv_new (by decide) (by decide) (by decide) h
        · exact rtv_new (by decide) (by decide) (by decide) h
        · exact rtv_new (by decide) (by decide) (by decide) h
        · exact rtv_new (by decide) (by decide) (by decide) h
        · exact rtv_new (by decide) (by decide) (by decide) h
        · exact rtv_new (by decide) (by decide) (by decide) h
    refine .cons (o := ⟨none, _, _, _, _, _⟩) (ds := [10, 8, 6, 0, 1, 2, 3, 4, 5, 6, 7, 8, 10, 11]) (js := [0, 1, 2, 3, 4, 5, 6, 7, 8, 9, 10, 11]) rfl (by kernel_rfl) (by kernel_rfl) ?_ .nil
    · intro x q hG hd K hK
      have d8 : SchP fr ps (PTv V x) q (x 8) := hd 8 (by simp)
      have d8' := d8
      obtain ⟨Av, nv, cv, Ap, cp, f, n, s, A, l, c, d7, d9⟩ := d8'
      have d10 : ∃ g c0 c1 c2 c3 c4 c5 c6, x 10 = .pointer (some ⟨g, 0, none⟩) ∧ V.heap.size ≤ g ∧ q.heap[g]? = some (.cells #[c0, c1, c2, c3, c4, c5, c6] 70) := hd 10 (by simp)
      obtain ⟨g, a0, a1, a2, a3, a4, a5, a6, d4, d5, d6⟩ := d10
      obtain ⟨u0, u1, u2, u3, u4, u5, u6, u7, u8, u9, u10, u11, u12, u13, u14⟩ := seven_cells d6
      refine HidG.mk ?_
      simp only [putsA, Act.put, List.setIfInBounds_toArray, List.set_cons_zero, List.set_cons_succ, Nat.reduceAdd, Nat.zero_add] at hK ⊢
      rw [d4, d7] at hK ⊢
      go_simp
      have hst := fun (j : Nat) (hj : j < 12) => rtv_store (X := V) (v := .slice A0 l0 c0) (vt := .agg #[.int .i64 f1, .int .i64 n1, .string s1, .slice A1 l1 c1]) (k := k) (C := C) (N := N) (fr := fr) (ps := ps) (u := undef) hj d4 d6 (.slice Av nv cv) (.slice none 0 0) (.slice Ap ps.length cp) (.int .i64 f) (.int .i64 n) (.string s) (.slice A l c)
      refine hK undef _ (by exact ⟨put7_below hG.b d5 .., fun b hb => Nat.lt_of_lt_of_le (hG.lt b hb) (by simp)⟩) (fun j hj h => ?_) (by exact ⟨g, _, _, _, _, _, _, _, d4, put7_is d6 .., d7⟩)
      · simp only [List.mem_cons, List.not_mem_nil, or_false] at hj
        rcases hj with rfl | rfl | rfl | rfl | rfl | rfl | rfl | rfl | rfl | rfl | rfl | rfl
        · exact hst _ (by decide) h
        · exact hst _ (by decide) h
        · exact hst _ (by decide) h
        · exact hst _ (by decide) h
        · exact hst _ (by decide) h
        · exact hst _ (by decide) h
        · exact hst _ (by decide) h
        · exact hst _ (by decide) h
        · exact hst _ (by decide) h
        · exact hst _ (by decide) h
        · exact hst _ (by decide) h
        · exact hst _ (by decide) h
  · intro x q hG hd K hK
    have d8 : SchP fr ps (PTv V x) q (x 8) := hd 8 (by omega)
    obtain ⟨Av, nv, cv, Ap, cp, f, n, s, A, l, c, d7, d1, d2⟩ := d8
    have d9 : x 9 = e00 := hd 9 (by omega)
    have d10 : ∃ g c0 c1 c2 c3 c4 c5 c6, x 10 = .pointer (some ⟨g, 0, none⟩) ∧ q.heap[g]? = some (.cells #[c0, c1, c2, c3, c4, c5, c6] 70) ∧ x 8 = .agg #[c0, c1, c2, c3, c4, c5, c6] := hd 12 (by omega)
    obtain ⟨g, a0, a1, a2, a3, a4, a5, a6, d4, d5, d6⟩ := d10
    rw [d7] at d6
    injection d6 with d6
    simp only [Array.mk.injEq, List.cons.injEq, and_true] at d6
    obtain ⟨rfl, rfl, rfl, rfl, rfl, rfl, rfl⟩ := d6
    have d11 : ∃ g c0 c1, x 11 = .pointer (some ⟨g, 0, none⟩) ∧ V.heap.size ≤ g ∧ q.heap[g]? = some (.cells #[c0, c1] 50) := hd 11 (by omega)
    obtain ⟨g2, b0, b1, d12, d13, d14⟩ := d11
    obtain ⟨u0, u1, u2, u3, u4⟩ := pair_cells d14
    have hne : g ≠ g2 := fun e => by rw [e, d14] at d5; injection d5 with d5; injection d5 with _ d5; cases d5
    unfold e00 at d9
    refine HidG.mk ?_
    simp only [putsA, Act.put, List.setIfInBounds_toArray, List.set_cons_zero, List.set_cons_succ, Nat.reduceAdd, Nat.zero_add] at hK ⊢
    rw [d12, d9, d4, d7] at hK ⊢
    go_simp
    have hk : Keeps (PTv V x) q ((q.setCell ⟨g2, 0, none⟩ (.int .i64 0)).setCell ⟨g2, 1, none⟩ (.int .i64 0)) := (Keeps.setCell (fun hp => hp.2.2 d12) _).trans (.setCell (fun hp => hp.2.2 d12) _)
    refine hK undef _ ⟨g, g2, Av, nv, cv, Ap, cp, f, n, s, A, l, c, d4, d12, ?_, heap_set _ g2 1 _ 50 _ (heap_set _ g2 0 _ 50 _ d14), (d1.keep hk).mono (fun _ _ => trivial), (d2.keep hk).bnd (fun _ _ _ => trivial), (hG.b.setCell (p := ⟨g2, 0, none⟩) d13 _).setCell (p := ⟨g2, 1, none⟩) d13 _⟩
    rw [Below.heap_setCell _ _ _ _ hne, Below.heap_setCell _ _ _ _ hne]
    exact d5
  · intro x q hF
    simp only [putsA, Act.put, List.setIfInBounds_toArray, List.set_cons_zero, List.set_cons_succ, Nat.reduceAdd, Nat.zero_add]
    exact hf (x 0) (x 1) (x 2) (x 3) (x 4) (x 5) (x 6) (x 7) (x 8) (x 9) (x 10) (x 11) q hF
end Go.Proofs.YtbdfjboojokgdaaDoor
