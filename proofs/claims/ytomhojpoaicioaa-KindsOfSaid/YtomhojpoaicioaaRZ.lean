/- Regions that draw their order, with terms of the solver's and boxes of them: what each operation's slot holds, and how the others keep that. Conditions: those that each theorem names. -/
import Derived.Test.YtomhojpoaicioaaJoinN
import Derived.Test.YtomhojpoaicioaaRegI
namespace Go.Proofs.Ytomhojpoaicioaa
open Go.RowKit

/-- A box of a term that was just laid. -/
structure ZB (q : World) (g : Nat) : Prop where
  c0 : q.cell? ⟨g, 0, none⟩ = some (.int .i64 0)
  c1 : q.cell? ⟨g, 1, none⟩ = some (.int .i64 0)
  c2 : q.cell? ⟨g, 2, none⟩ = some (.slice none 0 0)
  f0 : q.frozen? ⟨g, 0, none⟩ = false
  f1 : q.frozen? ⟨g, 1, none⟩ = false
  f2 : q.frozen? ⟨g, 2, none⟩ = false
theorem ZB.lt {q : World} {g : Nat} (h : ZB q g) : g < q.heap.size := World.block_lt_of_cell? q _ h.c0
theorem ZB.block {q q1 : World} {g : Nat} (h : ZB q g) (hb : q1.heap[g]? = q.heap[g]?) : ZB q1 g :=
  ⟨(World.cell?_of_block hb).trans h.c0, (World.cell?_of_block hb).trans h.c1, (World.cell?_of_block hb).trans h.c2, (World.frozen?_of_block hb).trans h.f0, (World.frozen?_of_block hb).trans h.f1, (World.frozen?_of_block hb).trans h.f2⟩
theorem ZB.on {q q1 : World} {g : Nat} (h : ZB q g) (hb : Below q.heap.size q q1) : ZB q1 g := h.block (hb.block g h.lt)
theorem ZB.new (q : World) (t : TypeId) : ZB (q.alloc (.cells #[.int .i64 0, .int .i64 0, .slice none 0 0] t)) q.heap.size :=
  ⟨by simp [go_sem], by simp [go_sem], by simp [go_sem], by simp [go_sem], by simp [go_sem], by simp [go_sem]⟩
def ptrZ (g : Nat) : Value := .pointer (some ⟨g, 0, none⟩)
theorem ptrZ_inj {a b : Nat} (h : ptrZ a = ptrZ b) : a = b := by injection h with h; injection h with h; injection h
/-- A box that holds a term. -/
structure TB (P : Nat → Prop) (q : World) (g : Nat) (t : Tz) (A : Option Addr) (c : Nat) : Prop where
  c0 : q.cell? ⟨g, 0, none⟩ = some (.int .i64 (formZ t))
  c1 : q.cell? ⟨g, 1, none⟩ = some (.int .i64 (numZ t))
  c2 : q.cell? ⟨g, 2, none⟩ = some (.slice A (argsZ t) c)
  f0 : q.frozen? ⟨g, 0, none⟩ = false
  f1 : q.frozen? ⟨g, 1, none⟩ = false
  f2 : q.frozen? ⟨g, 2, none⟩ = false
  zt : ZAt P q t (.agg #[.int .i64 (formZ t), .int .i64 (numZ t), .slice A (argsZ t) c])
theorem TB.lt {P : Nat → Prop} {q : World} {g : Nat} {t : Tz} {A : Option Addr} {c : Nat} (h : TB P q g t A c) : g < q.heap.size := World.block_lt_of_cell? q _ h.c0
theorem TB.keep {P : Nat → Prop} {q q1 : World} {g : Nat} {t : Tz} {A : Option Addr} {c : Nat} (h : TB P q g t A c) (hb : q1.heap[g]? = q.heap[g]?) (hk : Keeps P q q1) : TB P q1 g t A c :=
  ⟨(World.cell?_of_block hb).trans h.c0, (World.cell?_of_block hb).trans h.c1, (World.cell?_of_block hb).trans h.c2, (World.frozen?_of_block hb).trans h.f0, (World.frozen?_of_block hb).trans h.f1, (World.frozen?_of_block hb).trans h.f2, h.zt.keep hk⟩
theorem TB.on {P : Nat → Prop} {q q1 : World} {g : Nat} {t : Tz} {A : Option Addr} {c : Nat} (h : TB P q g t A c) (hb : Below q.heap.size q q1) : TB P q1 g t A c := h.keep (hb.block g h.lt) (.of_below hb)
/-- Three stores into a box. -/
def put3 (q : World) (g : Nat) (a b c : Value) : World := ((q.setCell ⟨g, 0, none⟩ a).setCell ⟨g, 1, none⟩ b).setCell ⟨g, 2, none⟩ c
theorem put3_block {q : World} {g b : Nat} {u v z : Value} (h : b ≠ g) : (put3 q g u v z).heap[b]? = q.heap[b]? := by
  unfold put3
  rw [Below.heap_setCell _ _ _ _ (fun e => h e), Below.heap_setCell _ _ _ _ (fun e => h e), Below.heap_setCell _ _ _ _ (fun e => h e)]
theorem put3_size {q : World} {g : Nat} {u v z : Value} : (put3 q g u v z).heap.size = q.heap.size := by unfold put3; simp
theorem put3_keeps {P : Nat → Prop} {q : World} {g : Nat} {u v z : Value} (h : ¬ P g) : Keeps P q (put3 q g u v z) := ((Keeps.setCell h _).trans (Keeps.setCell h _)).trans (Keeps.setCell h _)
theorem put3_below {q W : World} {g B : Nat} {u v z : Value} (h : Below B W q) (hg : B ≤ g) : Below B W (put3 q g u v z) := ((h.setCell (p := ⟨g, 0, none⟩) hg _).setCell (p := ⟨g, 1, none⟩) hg _).setCell (p := ⟨g, 2, none⟩) hg _
theorem ZB.put {P : Nat → Prop} {q : World} {g : Nat} (h : ZB q g) {t : Tz} {A : Option Addr} {c : Nat} (hz : ZAt P q t (.agg #[.int .i64 (formZ t), .int .i64 (numZ t), .slice A (argsZ t) c])) (hP : ¬ P g) : TB P (put3 q g (.int .i64 (formZ t)) (.int .i64 (numZ t)) (.slice A (argsZ t) c)) g t A c := by
  have e0 := h.c0
  have e1 := h.c1
  have e2 := h.c2
  have f0 := h.f0
  have f1 := h.f1
  have f2 := h.f2
  refine ⟨?_, ?_, ?_, ?_, ?_, ?_, hz.keep (put3_keeps hP)⟩
  all_goals (unfold put3; simp [go_sem, e0, e1, e2, f0, f1, f2])
theorem TB.put {P : Nat → Prop} {q : World} {g : Nat} {t0 : Tz} {A0 : Option Addr} {c0 : Nat} (h : TB P q g t0 A0 c0) {t : Tz} {A : Option Addr} {c : Nat} (hz : ZAt P q t (.agg #[.int .i64 (formZ t), .int .i64 (numZ t), .slice A (argsZ t) c])) (hP : ¬ P g) : TB P (put3 q g (.int .i64 (formZ t)) (.int .i64 (numZ t)) (.slice A (argsZ t) c)) g t A c := by
  have e0 := h.c0
  have e1 := h.c1
  have e2 := h.c2
  have f0 := h.f0
  have f1 := h.f1
  have f2 := h.f2
  refine ⟨?_, ?_, ?_, ?_, ?_, ?_, hz.keep (put3_keeps hP)⟩
  all_goals (unfold put3; simp [go_sem, e0, e1, e2, f0, f1, f2])
/-- A box that can be written. -/
structure OB (q : World) (g : Nat) : Prop where
  c0 : ∃ u, q.cell? ⟨g, 0, none⟩ = some u
  c1 : ∃ u, q.cell? ⟨g, 1, none⟩ = some u
  c2 : ∃ u, q.cell? ⟨g, 2, none⟩ = some u
  f0 : q.frozen? ⟨g, 0, none⟩ = false
  f1 : q.frozen? ⟨g, 1, none⟩ = false
  f2 : q.frozen? ⟨g, 2, none⟩ = false
theorem ZB.ob {q : World} {g : Nat} (h : ZB q g) : OB q g := ⟨⟨_, h.c0⟩, ⟨_, h.c1⟩, ⟨_, h.c2⟩, h.f0, h.f1, h.f2⟩
theorem OB.lt {q : World} {g : Nat} (h : OB q g) : g < q.heap.size := by obtain ⟨u, h⟩ := h.c0; exact World.block_lt_of_cell? q _ h
theorem OB.block {q q1 : World} {g : Nat} (h : OB q g) (hb : q1.heap[g]? = q.heap[g]?) : OB q1 g := by
  obtain ⟨⟨u0, h0⟩, ⟨u1, h1⟩, ⟨u2, h2⟩, f0, f1, f2⟩ := h
  exact ⟨⟨_, (World.cell?_of_block hb).trans h0⟩, ⟨_, (World.cell?_of_block hb).trans h1⟩, ⟨_, (World.cell?_of_block hb).trans h2⟩, (World.frozen?_of_block hb).trans f0, (World.frozen?_of_block hb).trans f1, (World.frozen?_of_block hb).trans f2⟩
theorem OB.on {q q1 : World} {g : Nat} (h : OB q g) (hb : Below q.heap.size q q1) : OB q1 g := h.block (hb.block g h.lt)
theorem OB.put {P : Nat → Prop} {q : World} {g : Nat} (h : OB q g) {t : Tz} {A : Option Addr} {c : Nat} (hz : ZAt P q t (.agg #[.int .i64 (formZ t), .int .i64 (numZ t), .slice A (argsZ t) c])) (hP : ¬ P g) : TB P (put3 q g (.int .i64 (formZ t)) (.int .i64 (numZ t)) (.slice A (argsZ t) c)) g t A c := by
  obtain ⟨⟨u0, e0⟩, ⟨u1, e1⟩, ⟨u2, e2⟩, f0, f1, f2⟩ := h
  refine ⟨?_, ?_, ?_, ?_, ?_, ?_, hz.keep (put3_keeps hP)⟩
  all_goals (unfold put3; simp [go_sem, e0, e1, e2, f0, f1, f2])
theorem OB.self {q : World} {g : Nat} (h : OB q g) (u v z : Value) : OB (put3 q g u v z) g := by
  obtain ⟨⟨u0, e0⟩, ⟨u1, e1⟩, ⟨u2, e2⟩, f0, f1, f2⟩ := h
  refine ⟨⟨u, ?_⟩, ⟨v, ?_⟩, ⟨z, ?_⟩, ?_, ?_, ?_⟩
  all_goals (unfold put3; simp [go_sem, e0, e1, e2, f0, f1, f2])
theorem OB.other {q : World} {g g' : Nat} (h : OB q g) (u v z : Value) : OB (put3 q g' u v z) g := by
  by_cases e : g = g'
  · subst e; exact h.self u v z
  · exact h.block (put3_block e)
inductive KZ where
  | val (v : Value)
  | at (t : Tz)
  | box
  | held (i : Nat) (t : Tz)
  | obox
def RZ (P : Nat → Prop) (V : World) (bx : List Nat) (K : Nat → KZ) (j : Nat) (x : Nat → Value) (q : World) : Prop :=
  match K j with
  | .val v => x j = v
  | .at t => ZAt P q t (x j)
  | .box => ∃ g, j ∈ bx ∧ x j = ptrZ g ∧ V.heap.size ≤ g ∧ ZB q g ∧ ∀ k ∈ bx, k ≠ j → x k ≠ x j
  | .obox => ∃ g, j ∈ bx ∧ x j = ptrZ g ∧ V.heap.size ≤ g ∧ OB q g ∧ ∀ k ∈ bx, k ≠ j → x k ≠ x j
  | .held i t => ∃ g A c, i ∈ bx ∧ x i = ptrZ g ∧ V.heap.size ≤ g ∧ TB P q g t A c ∧ ∀ k ∈ bx, k ≠ i → x k ≠ x i
structure GZ (V : World) (bx : List Nat) (x : Nat → Value) (q : World) : Prop where
  b : Below V.heap.size V q
  lt : ∀ k ∈ bx, ∀ b, x k = ptrZ b → b < q.heap.size
theorem upd_ne {x : Nat → Value} {i j : Nat} {v : Value} (h : j ≠ i) : updV x i v j = x j := if_neg h
theorem upd_self {x : Nat → Value} {i : Nat} {v : Value} : updV x i v i = v := if_pos rfl
theorem mem_ne {bx : List Nat} {k i : Nat} (hk : k ∈ bx) (hi : i ∉ bx) : k ≠ i := fun e => hi (e ▸ hk)
theorem GZ.keep {V q q1 : World} {bx : List Nat} {x : Nat → Value} {i : Nat} {v : Value} (h : GZ V bx x q) (hb : Below q.heap.size q q1) (hi : i ∉ bx) : GZ V bx (updV x i v) q1 :=
  ⟨h.b.trans (hb.mono h.b.size), fun k hk b e => Nat.lt_of_lt_of_le (h.lt k hk b ((upd_ne (mem_ne hk hi)).symm.trans e)) hb.size⟩
theorem GZ.new {V q : World} {bx : List Nat} {x : Nat → Value} {i : Nat} (h : GZ V bx x q) (o : Obj) : GZ V bx (updV x i (ptrZ q.heap.size)) (q.alloc o) := by
  refine ⟨h.b.trans ((below_new q o).mono h.b.size), fun k hk b e => ?_⟩
  by_cases hki : k = i
  · subst hki
    rw [upd_self] at e
    have := ptrZ_inj e
    simp; omega
  · rw [upd_ne hki] at e
    have := h.lt k hk b e
    simp; omega
theorem rz_keep {P : Nat → Prop} {V q q1 : World} {bx : List Nat} {K : Nat → KZ} {x : Nat → Value} {i j : Nat} {u : Value} (hb : Below q.heap.size q q1) (hi : i ∉ bx) (hj : j ≠ i) (h : RZ P V bx K j x q) : RZ P V bx K j (updV x i u) q1 := by
  unfold RZ at h ⊢
  cases hk : K j with
  | val v => rw [hk] at h; exact (upd_ne hj).trans h
  | «at» t => rw [hk] at h; show ZAt P q1 t (updV x i u j); rw [upd_ne hj]; exact ZAt.on h hb
  | box =>
    rw [hk] at h
    obtain ⟨g, h1, h2, h3, h4, h5⟩ := h
    refine ⟨g, h1, (upd_ne hj).trans h2, h3, h4.on hb, fun k hk hne => ?_⟩
    rw [upd_ne hj, upd_ne (mem_ne hk hi)]
    exact h5 k hk hne
  | obox =>
    rw [hk] at h
    obtain ⟨g, h1, h2, h3, h4, h5⟩ := h
    refine ⟨g, h1, (upd_ne hj).trans h2, h3, h4.on hb, fun k hk hne => ?_⟩
    rw [upd_ne hj, upd_ne (mem_ne hk hi)]
    exact h5 k hk hne
  | held i' t =>
    rw [hk] at h
    obtain ⟨g, A, c, h1, h2, h3, h4, h5⟩ := h
    refine ⟨g, A, c, h1, (upd_ne (mem_ne h1 hi)).trans h2, h3, h4.on hb, fun k hk hne => ?_⟩
    rw [upd_ne (mem_ne h1 hi), upd_ne (mem_ne hk hi)]
    exact h5 k hk hne
theorem rz_alloc {P : Nat → Prop} {V q : World} {bx : List Nat} {K : Nat → KZ} {x : Nat → Value} {i j : Nat} (o : Obj) (hj : j ≠ i) (hnh : ∀ i' t, K j ≠ .held i' t) (h : RZ P V bx K j x q) : RZ P V bx K j (updV x i (ptrZ q.heap.size)) (q.alloc o) := by
  have hb := below_new q o
  unfold RZ at h ⊢
  cases hk : K j with
  | val v => rw [hk] at h; exact (upd_ne hj).trans h
  | «at» t => rw [hk] at h; show ZAt P (q.alloc o) t (updV x i _ j); rw [upd_ne hj]; exact ZAt.on h hb
  | box =>
    rw [hk] at h
    obtain ⟨g, h1, h2, h3, h4, h5⟩ := h
    refine ⟨g, h1, (upd_ne hj).trans h2, h3, h4.on hb, fun k hk hne => ?_⟩
    rw [upd_ne hj]
    by_cases e : k = i
    · subst e
      rw [upd_self, h2]
      intro e
      have := ptrZ_inj e
      have := h4.lt
      omega
    · rw [upd_ne e]; exact h5 k hk hne
  | obox =>
    rw [hk] at h
    obtain ⟨g, h1, h2, h3, h4, h5⟩ := h
    refine ⟨g, h1, (upd_ne hj).trans h2, h3, h4.on hb, fun k hk hne => ?_⟩
    rw [upd_ne hj]
    by_cases e : k = i
    · subst e
      rw [upd_self, h2]
      intro e
      have := ptrZ_inj e
      have := h4.lt
      omega
    · rw [upd_ne e]; exact h5 k hk hne
  | held i' t => exact absurd hk (hnh i' t)
theorem rz_box {P : Nat → Prop} {V q : World} {bx : List Nat} {K : Nat → KZ} {x : Nat → Value} {i : Nat} {t : TypeId} (hG : GZ V bx x q) (hi : i ∈ bx) (hk : K i = .box) : RZ P V bx K i (updV x i (ptrZ q.heap.size)) (q.alloc (.cells #[.int .i64 0, .int .i64 0, .slice none 0 0] t)) := by
  unfold RZ
  rw [hk]
  refine ⟨q.heap.size, hi, upd_self, hG.b.size, ZB.new q t, fun k hk hne e => ?_⟩
  rw [upd_self, upd_ne hne] at e
  have := hG.lt k hk _ e
  omega
theorem rz_obox {P : Nat → Prop} {V q : World} {bx : List Nat} {K : Nat → KZ} {x : Nat → Value} {i : Nat} {t : TypeId} (hG : GZ V bx x q) (hi : i ∈ bx) (hk : K i = .obox) : RZ P V bx K i (updV x i (ptrZ q.heap.size)) (q.alloc (.cells #[.int .i64 0, .int .i64 0, .slice none 0 0] t)) := by
  unfold RZ
  rw [hk]
  refine ⟨q.heap.size, hi, upd_self, hG.b.size, (ZB.new q t).ob, fun k hk hne e => ?_⟩
  rw [upd_self, upd_ne hne] at e
  have := hG.lt k hk _ e
  omega
/-- A term is stored into a box. -/
theorem rz_put {P : Nat → Prop} {V q : World} {bx : List Nat} {K : Nat → KZ} {x : Nat → Value} {i j g : Nat} {w u v z : Value} (hP : ∀ b, P b → b < V.heap.size) (hg : V.heap.size ≤ g) (hi : i ∉ bx) (hj : j ≠ i) (hnh : ∀ i' t, K j ≠ .held i' t) (hnb : K j ≠ .box) (h : RZ P V bx K j x q) : RZ P V bx K j (updV x i w) (put3 q g u v z) := by
  unfold RZ at h ⊢
  cases hk : K j with
  | val v => rw [hk] at h; exact (upd_ne hj).trans h
  | «at» t => rw [hk] at h; show ZAt P _ t (updV x i w j); rw [upd_ne hj]; exact ZAt.keep h (put3_keeps (fun e => by have := hP _ e; omega))
  | box => exact absurd hk hnb
  | obox =>
    rw [hk] at h
    obtain ⟨g', h1, h2, h3, h4, h5⟩ := h
    refine ⟨g', h1, (upd_ne hj).trans h2, h3, h4.other _ _ _, fun k hk hne => ?_⟩
    rw [upd_ne hj, upd_ne (mem_ne hk hi)]
    exact h5 k hk hne
  | held i' t => exact absurd hk (hnh i' t)
theorem GZ.put {V q : World} {bx : List Nat} {x : Nat → Value} {i g : Nat} {w u v z : Value} (h : GZ V bx x q) (hg : V.heap.size ≤ g) (hi : i ∉ bx) : GZ V bx (updV x i w) (put3 q g u v z) :=
  ⟨put3_below h.b hg, fun k hk b e => by rw [put3_size]; exact h.lt k hk b ((upd_ne (mem_ne hk hi)).symm.trans e)⟩
/-- Two boxes of terms. -/
structure Boxed2 (P : Nat → Prop) (V : World) (t t' : Tz) (g g' : Nat) (A : Option Addr) (c : Nat) (B : Option Addr) (d : Nat) (q : World) : Prop where
  ta : TB P q g t A c
  tb : TB P q g' t' B d
  ga : V.heap.size ≤ g
  gb : V.heap.size ≤ g'
  ne : g ≠ g'
  bw : Below V.heap.size V q
end Go.Proofs.Ytomhojpoaicioaa
