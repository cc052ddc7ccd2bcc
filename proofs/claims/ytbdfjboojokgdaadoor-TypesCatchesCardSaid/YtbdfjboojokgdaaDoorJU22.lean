/- What types.Subst (chapter 4) holds in memory: places of variables, what is put where, and what stays of it. No conditions but those that each theorem names. -/
import Derived.Test.YtbdfjboojokgdaaDoorJU12
import Derived.Test.YtbdfjboojokgdaaDoorJU21
namespace Go.Proofs.YtbdfjboojokgdaaDoor
open Go.RowKit

/-! ### Places -/
/-- The places of a name among so many spots. -/
def posK (vs : List (ByteArray × Int)) (x : ByteArray) : Nat → List Int
  | 0 => []
  | k + 1 => if (vs[k]?.map (·.1)) = some x then posK vs x k ++ [(k : Int)] else posK vs x k
theorem posK_mem {vs : List (ByteArray × Int)} {x : ByteArray} {z : Int} : ∀ {k : Nat}, z ∈ posK vs x k ↔ ∃ i : Nat, i < k ∧ z = i ∧ (vs[i]?.map (·.1)) = some x
  | 0 => by simp [posK]
  | k + 1 => by
    have ih := posK_mem (vs := vs) (x := x) (z := z) (k := k)
    unfold posK
    split
    · rename_i hx
      rw [List.mem_append, List.mem_singleton, ih]
      constructor
      · rintro (⟨i, h1, h2, h3⟩ | rfl)
        · exact ⟨i, by omega, h2, h3⟩
        · exact ⟨k, by omega, rfl, hx⟩
      · rintro ⟨i, h1, h2, h3⟩
        by_cases e : i = k
        · subst e; exact .inr h2
        · exact .inl ⟨i, by omega, h2, h3⟩
    · rename_i hx
      rw [ih]
      constructor
      · rintro ⟨i, h1, h2, h3⟩; exact ⟨i, by omega, h2, h3⟩
      · rintro ⟨i, h1, h2, h3⟩
        by_cases e : i = k
        · subst e; exact absurd h3 hx
        · exact ⟨i, by omega, h2, h3⟩
theorem posK_rise (vs : List (ByteArray × Int)) (x : ByteArray) : ∀ (k : Nat), (posK vs x k).Pairwise (· < ·)
  | 0 => List.Pairwise.nil
  | k + 1 => by
    unfold posK
    split
    · rw [List.pairwise_append]
      refine ⟨posK_rise vs x k, List.pairwise_singleton _ _, fun a ha b hb => ?_⟩
      obtain ⟨i, h1, h2, _⟩ := posK_mem.1 ha
      rw [List.mem_singleton] at hb
      omega
    · exact posK_rise vs x k
theorem posK_len (vs : List (ByteArray × Int)) (x : ByteArray) : ∀ (k : Nat), (posK vs x k).length ≤ k
  | 0 => Nat.le_refl _
  | k + 1 => by
    have := posK_len vs x k
    unfold posK
    split
    · rw [List.length_append]; simp; omega
    · omega
theorem freeQ_iff {L : List (ByteArray × Int)} {n m : Nat} {d : Int} {x : ByteArray} : freeQ L n m d x = true ↔ ∃ (i : Nat) (h : i < L.length), n ≤ i ∧ i < m ∧ L[i].1 = x ∧ L[i].2 ≤ d := by
  unfold freeQ
  rw [List.any_eq_true]
  constructor
  · rintro ⟨p, hp, h⟩
    simp only [Bool.and_eq_true, decide_eq_true_eq] at h
    obtain ⟨j, hj, rfl⟩ := List.mem_iff_getElem.1 hp
    rw [List.length_take, List.length_drop] at hj
    simp only [List.getElem_take, List.getElem_drop] at h
    exact ⟨n + j, by omega, by omega, by omega, h.1, h.2⟩
  · rintro ⟨i, h, h1, h2, h3, h4⟩
    refine ⟨L[i], ?_, by simp [h3, h4]⟩
    rw [List.mem_iff_getElem]
    refine ⟨i - n, by rw [List.length_take, List.length_drop]; omega, ?_⟩
    simp only [List.getElem_take, List.getElem_drop]
    congr 1; omega
/-- The places of names, in memory: a map with a row of numbers for each name that was met. -/
def PlacesAt (B pb k : Nat) (vs : List (ByteArray × Int)) (w : World) : Prop :=
  ∃ sz F, MapS Tryd.prog 9 w pb sz F ∧ sz ≤ k ∧ (∀ x, F x = none → posK vs x k = []) ∧ (∀ x v, F x = some v → OwnI B w v (posK vs x k) ∧ posK vs x k ≠ []) ∧ (∀ x y u v, F x = some u → F y = some v → x ≠ y → u.ownBlock ≠ v.ownBlock)
/-! ### Whom a call may turn -/
/-- The search's block, the map of what is put where, the row of what is put: what they are. -/
structure Cx (sb ub : Nat) (g : Option Nat) (w : World) : Prop where
  sb : ∃ cs, w.heap[sb]? = some (.cells cs 118)
  ub : ∀ cs t, w.heap[ub]? ≠ some (.cells cs t)
  g : ∀ k, g = some k → ∃ cs, w.heap[k]? = some (.cells cs 113)
structure FrSb (sb ub : Nat) (g : Option Nat) (w w' : World) : Prop where
  os : w'.os = w.os
  tape : w'.tape = w.tape
  output : w'.output = w.output
  size : w.heap.size ≤ w'.heap.size
  block : ∀ k, k < w.heap.size → k ≠ sb → k ≠ ub → g ≠ some k → w'.heap[k]? = w.heap[k]?
theorem FrSb.refl (sb ub : Nat) (g : Option Nat) (w : World) : FrSb sb ub g w w := ⟨rfl, rfl, rfl, Nat.le_refl _, fun _ _ _ _ _ => rfl⟩
theorem FrSb.of_below {sb ub : Nat} {g : Option Nat} {w w' : World} (h : Below w.heap.size w w') : FrSb sb ub g w w' := ⟨h.os, h.tape, h.output, h.size, fun k hk _ _ _ => h.block k hk⟩
/-- One behind the other: the later one's row is the earlier one's, or new. -/
theorem FrSb.trans {sb ub : Nat} {g g' : Option Nat} {a b c : World} (h : FrSb sb ub g a b) (h' : FrSb sb ub g' b c) (hg : ∀ k, g' = some k → g = some k ∨ a.heap.size ≤ k) : FrSb sb ub g a c :=
  ⟨h'.os.trans h.os, h'.tape.trans h.tape, h'.output.trans h.output, Nat.le_trans h.size h'.size, fun k hk h1 h2 h3 =>
    (h'.block k (Nat.lt_of_lt_of_le hk h.size) h1 h2 (fun e => by
      rcases hg k e with e2 | e2
      · exact h3 e2
      · omega)).trans (h.block k hk h1 h2 h3)⟩
theorem FrSb.on {sb ub : Nat} {g : Option Nat} {a b c : World} (h : FrSb sb ub g a b) (h' : Below b.heap.size b c) : FrSb sb ub g a c := h.trans (FrSb.of_below (g := g) h') (fun _ e => .inl e)
theorem FrSb.below {sb ub B : Nat} {g : Option Nat} {a b : World} (h : FrSb sb ub g a b) (hs : B ≤ sb) (hu : B ≤ ub) (hg : ∀ k, g = some k → B ≤ k) (hB : B ≤ a.heap.size) : Below B a b :=
  ⟨h.os, h.tape, h.output, h.size, fun k hk => h.block k (by omega) (by omega) (by omega) (fun e => by have := hg k e; omega)⟩
/-- A store into the search's block. -/
theorem FrSb.setCell {sb ub : Nat} {g : Option Nat} {w : World} (o : Nat) (v : Value) : FrSb sb ub g w (w.setCell ⟨sb, o, none⟩ v) :=
  ⟨rfl, rfl, rfl, by simp, fun k _ h _ _ => Below.heap_setCell _ _ _ _ h⟩
theorem FrSb.map {sb ub : Nat} {g : Option Nat} {w w' : World} (h : w.grownBy w' (some ub)) : FrSb sb ub g w w' :=
  ⟨h.os, h.tape, h.output, h.size, fun k hk _ h2 _ => h.block k hk (fun e => by injection e with e; exact h2 e)⟩
theorem FrSb.row {sb ub : Nat} {v : Value} {w w' : World} (h : w.grownBy w' v.ownBlock) : FrSb sb ub v.ownBlock w w' :=
  ⟨h.os, h.tape, h.output, h.size, fun k hk _ _ h3 => h.block k hk (fun e => h3 e.symm)⟩
section
variable {sb ub : Nat} {g : Option Nat} {w w' : World}
theorem Cx.cells (h : Cx sb ub g w) (hf : FrSb sb ub g w w') {b : Nat} {cs : Array Value} {t : TypeId} (hb : w.heap[b]? = some (.cells cs t)) (h1 : t ≠ 118) (h2 : t ≠ 113) : w'.heap[b]? = some (.cells cs t) := by
  refine (hf.block b (lt_of_block hb) ?_ ?_ ?_).trans hb
  · rintro rfl
    obtain ⟨cs', e⟩ := h.sb
    rw [e] at hb; injection hb with hb; injection hb with _ hb; exact h1 hb.symm
  · rintro rfl; exact h.ub _ _ hb
  · intro e
    obtain ⟨cs', e2⟩ := h.g b e
    rw [e2] at hb; injection hb with hb; injection hb with _ hb; exact h2 hb.symm
theorem Cx.map (h : Cx sb ub g w) (hf : FrSb sb ub g w w') {b : Nat} (hb : b < w.heap.size) (hn : ∀ cs t, w.heap[b]? ≠ some (.cells cs t)) (hne : b ≠ ub) : w'.heap[b]? = w.heap[b]? := by
  refine hf.block b hb ?_ hne ?_
  · rintro rfl; obtain ⟨cs, e⟩ := h.sb; exact hn _ _ e
  · intro e; obtain ⟨cs, e2⟩ := h.g b e; exact hn _ _ e2
theorem Cx.own (h : Cx sb ub g w) (hf : FrSb sb ub g w w') {base : Nat} {e : TypeId} {size : Nat} {v : Value} {n : Nat} {xs : List Value} (ho : w.ownsRow base e size v n xs) (h1 : e ≠ 118) (h2 : e ≠ 113) : w'.ownsRow base e size v n xs :=
  own_keep ho (fun k hk => by
    obtain ⟨cur, hc⟩ := own_type ho hk
    rw [h.cells hf hc h1 h2, hc])
end
theorem MapS.notCells {P : Program} {k : TypeId} {w : World} {b sz : Nat} {f : ByteArray → Option Value} (h : MapS P k w b sz f) (cs : Array Value) (t : TypeId) : w.heap[b]? ≠ some (.cells cs t) := by
  obtain ⟨D, ⟨es, clock, hb, _⟩, _⟩ := h
  rw [hb]; intro e; cases e
theorem PlacesAt.keep {B pb k sb ub : Nat} {g : Option Nat} {vs : List (ByteArray × Int)} {w w' : World} (h : PlacesAt B pb k vs w) (hx : Cx sb ub g w) (hf : FrSb sb ub g w w') (hne : pb ≠ ub) : PlacesAt B pb k vs w' := by
  obtain ⟨sz, F, hm, hs, h1, h2, h3⟩ := h
  exact ⟨sz, F, hm.block (hx.map hf hm.lt hm.notCells hne), hs, h1, fun x v e => ⟨hx.own hf (h2 x v e).1 (by decide) (by decide), (h2 x v e).2⟩, h3⟩
/-! ### What is put -/
/-- Block b is a put: a type in the place of a name, and what is free in it. -/
def PutAt (B ub : Nat) (w : World) (b : Nat) (s : ByteArray) (u : Ty) : Prop :=
  s.size ≤ 1099511627776 ∧ ∃ (f n : Int) (m : ByteArray) (A : Option Addr) (l c mb : Nat), w.heap[b]? = some (.cells #[.string s, .int .i64 f, .int .i64 n, .string m, .slice A l c, .map (some mb)] 120) ∧ TyAt (fun k => k < B) w u (.agg #[.int .i64 f, .int .i64 n, .string m, .slice A l c]) ∧ KnowsS w mb u.free ∧ mb ≠ ub
theorem KnowsS.noCells {w : World} {mb : Nat} {zs : List ByteArray} (h : KnowsS w mb zs) (cs : Array Value) (t : TypeId) : w.heap[mb]? ≠ some (.cells cs t) := by
  obtain ⟨sz, f, h, _⟩ := h; exact h.notCells cs t
theorem PutAt.keep {B sb ub b : Nat} {g : Option Nat} {w w' : World} {s : ByteArray} {u : Ty} (h : PutAt B ub w b s u) (hx : Cx sb ub g w) (hf : FrSb sb ub g w w') (hs : B ≤ sb) (hu : B ≤ ub) (hg : ∀ k, g = some k → B ≤ k) (hB : B ≤ w.heap.size) : PutAt B ub w' b s u := by
  obtain ⟨h0, f, n, m, A, l, c, mb, h1, h2, h3, h4⟩ := h
  exact ⟨h0, f, n, m, A, l, c, mb, hx.cells hf h1 (by decide) (by decide), h2.keep (.of_belowB (fun _ h => h) (hf.below hs hu hg hB)), h3.block (hx.map hf h3.lt h3.noCells h4), h4⟩
theorem PutAt.lt {B ub b : Nat} {w : World} {s : ByteArray} {u : Ty} (h : PutAt B ub w b s u) : b < w.heap.size := by
  obtain ⟨_, f, n, m, A, l, c, mb, h1, _⟩ := h; exact lt_of_block h1
/-- What the map says of a name, and what is put in its place. -/
def PutV (B ub : Nat) (w : World) (x : ByteArray) (o : Option Value) (u : Option Ty) : Prop :=
  match o with
  | none => u = none
  | some v => (v = .pointer none ∧ u = none) ∨ ∃ b t, v = .pointer (some ⟨b, 0, none⟩) ∧ u = some t ∧ PutAt B ub w b x t
def PutsAt (B ub : Nat) (P : ByteArray → Option Ty) (N : Nat) (w : World) : Prop := ∃ sz f, MapS Tryd.prog 9 w ub sz f ∧ sz ≤ N ∧ ∀ x, PutV B ub w x (f x) (P x)
/-- A row of puts. -/
def ptrV (b : Nat) : Value := .pointer (some ⟨b, 0, none⟩)
def IntoAt (B ub : Nat) (w : World) (v : Value) (l : List (Nat × ByteArray × Ty)) : Prop :=
  w.ownsRow B 113 1 v l.length (l.map (fun p => ptrV p.1)) ∧ ∀ p ∈ l, PutAt B ub w p.1 p.2.1 p.2.2
/-- All that the search stands on. -/
structure SbSt (B sb lb pb ub : Nat) (vs : List (ByteArray × Int)) (es : List Int) (P : ByteArray → Option Ty) (N : Nat) (bh op dp : Int) (w : World) : Prop where
  hB : B ≤ sb ∧ B ≤ lb ∧ B ≤ pb ∧ B ≤ ub ∧ B ≤ w.heap.size
  ne : pb ≠ ub
  lay : ∃ v1 v2, LayB B lb v1 v2 vs es w
  pl : PlacesAt B pb vs.length vs w
  cell : w.heap[sb]? = some (.cells #[.pointer (some ⟨lb, 0, none⟩), .map (some pb), .map (some ub), .int .i64 bh, .int .i64 op, .int .i64 dp] 118)
  puts : PutsAt B ub P N w
theorem SbSt.cx {B sb lb pb ub : Nat} {vs : List (ByteArray × Int)} {es : List Int} {P : ByteArray → Option Ty} {N : Nat} {bh op dp : Int} {w : World} (h : SbSt B sb lb pb ub vs es P N bh op dp w) {v : Value} {n : Nat} {xs : List Value} (ho : w.ownsRow B 113 1 v n xs) : Cx sb ub v.ownBlock w := by
  obtain ⟨sz, f, hm, _⟩ := h.puts
  exact ⟨⟨_, h.cell⟩, hm.notCells, fun k hk => own_type ho hk⟩
/-- What does not hang on the search's own block and the map stays. -/
theorem SbSt.parts {B sb lb pb ub : Nat} {vs : List (ByteArray × Int)} {es : List Int} {P : ByteArray → Option Ty} {N : Nat} {bh op dp : Int} {w w' : World} (h : SbSt B sb lb pb ub vs es P N bh op dp w) {v : Value} {n : Nat} {xs : List Value} (ho : w.ownsRow B 113 1 v n xs) (hf : FrSb sb ub v.ownBlock w w') :
    (∃ v1 v2, LayB B lb v1 v2 vs es w') ∧ PlacesAt B pb vs.length vs w' ∧ B ≤ w'.heap.size ∧ (∀ b s u, PutAt B ub w b s u → PutAt B ub w' b s u) := by
  have hx := h.cx ho
  have hb := h.hB
  have hz := hf.size
  obtain ⟨v1, v2, h1, h2, h3⟩ := h.lay
  refine ⟨⟨v1, v2, hx.cells hf h1 (by decide) (by decide), hx.own hf h2 (by decide) (by decide), hx.own hf h3 (by decide) (by decide)⟩, h.pl.keep hx hf h.ne, by omega, fun b s u hp => hp.keep hx hf hb.1 hb.2.2.2.1 (fun k hk => (World.ownsRow.lt ho k hk).1) hb.2.2.2.2⟩
theorem PutV.map {B ub : Nat} {w w' : World} {x : ByteArray} {o : Option Value} {u : Option Ty} (h : PutV B ub w x o u) (hk : ∀ b s t, PutAt B ub w b s t → PutAt B ub w' b s t) : PutV B ub w' x o u := by
  cases o with
  | none => exact h
  | some v =>
    rcases h with h | ⟨b, t, h1, h2, h3⟩
    · exact .inl h
    · exact .inr ⟨b, t, h1, h2, hk _ _ _ h3⟩
/-- Behind a call that made new memory alone. -/
theorem SbSt.on {B sb lb pb ub : Nat} {vs : List (ByteArray × Int)} {es : List Int} {P : ByteArray → Option Ty} {N : Nat} {bh op dp : Int} {w w' : World} (h : SbSt B sb lb pb ub vs es P N bh op dp w) (hb : Below w.heap.size w w') : SbSt B sb lb pb ub vs es P N bh op dp w' := by
  have hp := h.parts (World.ownsRow_nil w B 113 1) (FrSb.of_below hb)
  obtain ⟨sz, f, hm, hs, hf⟩ := h.puts
  exact ⟨⟨h.hB.1, h.hB.2.1, h.hB.2.2.1, h.hB.2.2.2.1, hp.2.2.1⟩, h.ne, hp.1, hp.2.1, (hb.block sb (lt_of_block h.cell)).trans h.cell, sz, f, hm.on hb, hs, fun x => (hf x).map hp.2.2.2⟩
theorem IntoAt.keep {B sb lb pb ub : Nat} {vs : List (ByteArray × Int)} {es : List Int} {P : ByteArray → Option Ty} {N : Nat} {bh op dp : Int} {w w' : World} {v : Value} {l : List (Nat × ByteArray × Ty)} (hi : IntoAt B ub w v l) (h : SbSt B sb lb pb ub vs es P N bh op dp w) {u : Value} {n : Nat} {xs : List Value} (ho : w.ownsRow B 113 1 u n xs) (hf : FrSb sb ub u.ownBlock w w') (hr : ∀ k, v.ownBlock = some k → w'.heap[k]? = w.heap[k]?) : IntoAt B ub w' v l :=
  ⟨own_keep hi.1 hr, fun p hp => (h.parts ho hf).2.2.2 _ _ _ (hi.2 p hp)⟩
theorem IntoAt.on {B sb lb pb ub : Nat} {vs : List (ByteArray × Int)} {es : List Int} {P : ByteArray → Option Ty} {N : Nat} {bh op dp : Int} {w w' : World} {v : Value} {l : List (Nat × ByteArray × Ty)} (hi : IntoAt B ub w v l) (h : SbSt B sb lb pb ub vs es P N bh op dp w) (hb : Below w.heap.size w w') : IntoAt B ub w' v l :=
  hi.keep h (World.ownsRow_nil w B 113 1) (FrSb.of_below hb) (fun k hk => hb.block k (World.ownsRow.lt hi.1 k hk).2)
end Go.Proofs.YtbdfjboojokgdaaDoor
