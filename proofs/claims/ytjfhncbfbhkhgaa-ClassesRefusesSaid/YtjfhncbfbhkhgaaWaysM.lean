/- The mathematics of the shortest ways: what is come to first goes on first; of ways as short the one with the least places is found. No program; no conditions but those that each theorem names. -/
import Derived.Test.YtjfhncbfbhkhgaaGroupM
namespace Go.Proofs.Ytjfhncbfbhkhgaa
/-- Places in a row: one is ahead of another one that is as long. -/
def lx : List Nat → List Nat → Prop
  | a :: u, b :: v => a < b ∨ (a = b ∧ lx u v)
  | _, _ => False
/-- A way is ahead of another one: it is shorter, or as short, and its places are ahead. -/
def slt (u v : List Nat) : Prop := u.length < v.length ∨ (u.length = v.length ∧ lx u v)
theorem lx_irr : ∀ u, ¬ lx u u
  | [] => fun h => h
  | a :: u => fun h => by
    rcases h with h | ⟨_, h⟩
    · omega
    · exact lx_irr u h
theorem lx_trans : ∀ {u v w}, lx u v → lx v w → lx u w
  | [], _, _, h, _ => h.elim
  | _ :: _, [], _, h, _ => h.elim
  | _ :: _, _ :: _, [], _, h => h.elim
  | a :: u, b :: v, c :: w, h, g => by
    rcases h with h | ⟨rfl, h⟩ <;> rcases g with g | ⟨rfl, g⟩
    · exact .inl (Nat.lt_trans h g)
    · exact .inl h
    · exact .inl g
    · exact .inr ⟨rfl, lx_trans h g⟩
theorem lx_tri : ∀ {u v : List Nat}, u.length = v.length → lx u v ∨ u = v ∨ lx v u
  | [], [], _ => .inr (.inl rfl)
  | [], _ :: _, h => by simp at h
  | _ :: _, [], h => by simp at h
  | a :: u, b :: v, h => by
    rcases Nat.lt_trichotomy a b with h1 | rfl | h1
    · exact .inl (.inl h1)
    · rcases lx_tri (u := u) (v := v) (by simpa using h) with h2 | rfl | h2
      · exact .inl (.inr ⟨rfl, h2⟩)
      · exact .inr (.inl rfl)
      · exact .inr (.inr (.inr ⟨rfl, h2⟩))
    · exact .inr (.inr (.inl h1))
theorem lx_snoc : ∀ {u v : List Nat} {i j : Nat}, u.length = v.length → (lx (u ++ [i]) (v ++ [j]) ↔ lx u v ∨ (u = v ∧ i < j))
  | [], [], i, j, _ => by simp [lx]
  | [], _ :: _, _, _, h => by simp at h
  | _ :: _, [], _, _, h => by simp at h
  | a :: u, b :: v, i, j, h => by
    have ih := lx_snoc (u := u) (v := v) (i := i) (j := j) (by simpa using h)
    simp only [List.cons_append, lx, ih]
    constructor
    · rintro (h1 | ⟨rfl, h1 | ⟨rfl, h1⟩⟩)
      · exact .inl (.inl h1)
      · exact .inl (.inr ⟨rfl, h1⟩)
      · exact .inr ⟨rfl, h1⟩
    · rintro ((h1 | ⟨rfl, h1⟩) | ⟨h1, h2⟩)
      · exact .inl h1
      · exact .inr ⟨rfl, .inl h1⟩
      · injection h1 with h1 h3; subst h1; subst h3; exact .inr ⟨rfl, .inr ⟨rfl, h2⟩⟩
theorem slt_irr (u : List Nat) : ¬ slt u u := fun h => by
  rcases h with h | ⟨_, h⟩
  · omega
  · exact lx_irr u h
theorem slt_trans {u v w : List Nat} (h : slt u v) (g : slt v w) : slt u w := by
  rcases h with h | ⟨h1, h⟩ <;> rcases g with g | ⟨g1, g⟩
  · exact .inl (by omega)
  · exact .inl (by omega)
  · exact .inl (by omega)
  · exact .inr ⟨by omega, lx_trans h g⟩
theorem slt_tri (u v : List Nat) : slt u v ∨ u = v ∨ slt v u := by
  rcases Nat.lt_trichotomy u.length v.length with h | h | h
  · exact .inl (.inl h)
  · rcases lx_tri h with h1 | h1 | h1
    · exact .inl (.inr ⟨h, h1⟩)
    · exact .inr (.inl h1)
    · exact .inr (.inr (.inr ⟨h.symm, h1⟩))
  · exact .inr (.inr (.inl h))
theorem slt_snoc {u v : List Nat} {i j : Nat} : slt (u ++ [i]) (v ++ [j]) ↔ slt u v ∨ (u = v ∧ i < j) := by
  unfold slt
  simp only [List.length_append, List.length_cons, List.length_nil]
  constructor
  · rintro (h | ⟨h, h1⟩)
    · exact .inl (.inl (by omega))
    · rcases (lx_snoc (by omega)).1 h1 with h2 | h2
      · exact .inl (.inr ⟨by omega, h2⟩)
      · exact .inr h2
  · rintro ((h | ⟨h, h1⟩) | ⟨rfl, h1⟩)
    · exact .inl (by omega)
    · exact .inr ⟨by omega, (lx_snoc h).2 (.inl h1)⟩
    · exact .inr ⟨rfl, (lx_snoc rfl).2 (.inr ⟨rfl, h1⟩)⟩
/-- Ahead, or the same. -/
def sle (u v : List Nat) : Prop := slt u v ∨ u = v
theorem sle.lt {u v w : List Nat} (h : sle u v) (g : slt v w) : slt u w := by
  rcases h with h | rfl
  · exact slt_trans h g
  · exact g
theorem sle.trans {u v w : List Nat} (h : sle u v) (g : sle v w) : sle u w := by
  rcases g with g | rfl
  · exact .inl (h.lt g)
  · exact h
theorem sle.snoc {u v : List Nat} (h : sle u v) (i : Nat) : sle (u ++ [i]) (v ++ [i]) := by
  rcases h with h | rfl
  · exact .inl (slt_snoc.2 (.inl h))
  · exact .inr rfl
section
variable {α : Type}
/-- Where places lead. -/
def goW (next : α → List α) : α → List Nat → Option α
  | x, [] => some x
  | x, j :: w => (next x)[j]?.bind (fun y => goW next y w)
theorem goW_append (next : α → List α) : ∀ (x : α) (u v : List Nat), goW next x (u ++ v) = (goW next x u).bind (fun y => goW next y v)
  | x, [], v => rfl
  | x, j :: u, v => by
    show (next x)[j]?.bind (fun y => goW next y (u ++ v)) = ((next x)[j]?.bind (fun y => goW next y u)).bind _
    cases (next x)[j]? with
    | none => rfl
    | some y => exact goW_append next y u v
theorem goW_snoc (next : α → List α) (x : α) (u : List Nat) (j : Nat) : goW next x (u ++ [j]) = (goW next x u).bind (fun y => (next y)[j]?) := by
  rw [goW_append]
  cases goW next x u with
  | none => rfl
  | some y =>
    show (next y)[j]?.bind (fun z => some z) = (next y)[j]?
    cases (next y)[j]? <;> rfl
/-- Places that lead are a way, and a way is by places. -/
theorem goW_way {next : α → List α} : ∀ {x y : α} (w : List Nat), goW next x w = some y → Way next x y
  | x, y, [], h => by injection h with h; subst h; exact .nil trivial
  | x, y, j :: w, h => by
    have h' : (next x)[j]?.bind (fun y => goW next y w) = some y := h
    cases hj : (next x)[j]? with
    | none => rw [hj] at h'; cases h'
    | some z => rw [hj] at h'; exact .cons trivial (List.mem_of_getElem? hj) (goW_way w h')
theorem way_goW {next : α → List α} {x y : α} (h : Way next x y) : ∃ w, goW next x w = some y := by
  induction h with
  | nil _ => exact ⟨[], rfl⟩
  | @cons x y z _ e _ ih =>
    obtain ⟨w, hw⟩ := ih
    obtain ⟨j, hj⟩ := List.getElem?_of_mem e
    exact ⟨j :: w, by show (next x)[j]?.bind (fun y => goW next y w) = some z; rw [hj]; exact hw⟩
/-- The least way from one to another one. -/
def Least (next : α → List α) (a b : α) (w : List Nat) : Prop := goW next a w = some b ∧ ∀ u, goW next a u = some b → sle w u
theorem Least.unique {next : α → List α} {a b : α} {u v : List Nat} (h : Least next a b u) (g : Least next a b v) : u = v := by
  rcases h.2 v g.1 with h1 | h1
  · rcases g.2 u h.1 with h2 | h2
    · exact absurd (slt_trans h1 h2) (slt_irr u)
    · exact h2.symm
  · exact h1
/-- What was come to, in its row, each with its way; the one at place k is gone on from, its first j things are come to. -/
structure BfsI (next : α → List α) (a : α) (D : List (α × List Nat)) (v : List Nat) (j : Nat) : Prop where
  first : D[0]? = some (a, [])
  inc : D.Pairwise (fun p q => slt p.2 q.2)
  names : (D.map Prod.fst).Nodup
  way : ∀ x w, (x, w) ∈ D → goW next a w = some x
  from_ : ∀ x w, (x, w) ∈ D → w = [] ∨ ∃ y u i, w = u ++ [i] ∧ (y, u) ∈ D ∧ (next y)[i]? = some x ∧ (slt u v ∨ (u = v ∧ i < j))
  all : ∀ u i z, goW next a (u ++ [i]) = some z → (slt u v ∨ (u = v ∧ i < j)) → ∃ w, (z, w) ∈ D ∧ sle w (u ++ [i])
theorem BfsI.begin (next : α → List α) (a : α) : BfsI next a [(a, [])] [] 0 :=
  ⟨rfl, List.pairwise_singleton .., by simp, fun x w h => by simp at h; obtain ⟨rfl, rfl⟩ := h; rfl, fun x w h => by simp at h; exact .inl h.2, fun u i z _ h => by
    rcases h with (h | ⟨_, h⟩) | ⟨_, h⟩
    · simp at h
    · cases u <;> exact h.elim
    · omega⟩
theorem BfsI.a_mem {next : α → List α} {a : α} {D : List (α × List Nat)} {v : List Nat} {j : Nat} (h : BfsI next a D v j) : (a, []) ∈ D := List.mem_of_getElem? h.first
/-- A name was come to by one way alone. -/
theorem BfsI.one {next : α → List α} {a : α} {D : List (α × List Nat)} {v : List Nat} {j : Nat} (h : BfsI next a D v j) {x : α} {u w : List Nat} (h1 : (x, u) ∈ D) (h2 : (x, w) ∈ D) : u = w := by
  have hn := h.names
  clear h
  induction D with
  | nil => cases h1
  | cons p D ih =>
    have hc := List.nodup_cons.1 hn
    rcases List.mem_cons.1 h1 with e1 | h1 <;> rcases List.mem_cons.1 h2 with e2 | h2
    · rw [← e1] at e2; injection e2 with _ e2; exact e2.symm
    · exact absurd (List.mem_map.2 ⟨_, h2, by rw [← e1]⟩) hc.1
    · exact absurd (List.mem_map.2 ⟨_, h1, by rw [← e2]⟩) hc.1
    · exact ih h1 h2 hc.2
/-- The next thing was come to already. -/
theorem BfsI.skip {next : α → List α} {a : α} {D : List (α × List Nat)} {v : List Nat} {j : Nat} (h : BfsI next a D v j) {y x : α} (hy : (y, v) ∈ D) (hj : (next y)[j]? = some x) (hx : x ∈ D.map Prod.fst) : BfsI next a D v (j + 1) := by
  refine ⟨h.first, h.inc, h.names, h.way, fun z w hz => ?_, fun u i z hz hlt => ?_⟩
  · rcases h.from_ z w hz with h1 | ⟨y, u, i, h1, h2, h3, h4⟩
    · exact .inl h1
    · exact .inr ⟨y, u, i, h1, h2, h3, h4.imp id (fun h => ⟨h.1, by omega⟩)⟩
  · by_cases hd : slt u v ∨ (u = v ∧ i < j)
    · exact h.all u i z hz hd
    · have : u = v ∧ i = j := by
        rcases hlt with h1 | ⟨h1, h2⟩
        · exact absurd (.inl h1) hd
        · exact ⟨h1, Classical.byContradiction fun h3 => hd (.inr ⟨h1, by omega⟩)⟩
      obtain ⟨rfl, rfl⟩ := this
      rw [goW_snoc, h.way y u hy] at hz
      have hz' : (next y)[i]? = some z := hz
      rw [hj] at hz'
      injection hz' with hz'
      subst hz'
      obtain ⟨⟨x', w⟩, hm, rfl⟩ := List.mem_map.1 hx
      refine ⟨w, hm, ?_⟩
      rcases h.from_ x' w hm with rfl | ⟨y', u', i', rfl, _, _, h4⟩
      · exact .inl (.inl (by simp))
      · exact .inl (slt_snoc.2 h4)
/-- The next thing is come to. -/
theorem BfsI.add {next : α → List α} {a : α} {D : List (α × List Nat)} {v : List Nat} {j : Nat} (h : BfsI next a D v j) {y x : α} (hy : (y, v) ∈ D) (hj : (next y)[j]? = some x) (hx : x ∉ D.map Prod.fst) : BfsI next a (D ++ [(x, v ++ [j])]) v (j + 1) := by
  have hlt : ∀ z w, (z, w) ∈ D → slt w (v ++ [j]) := fun z w hz => by
    rcases h.from_ z w hz with rfl | ⟨y', u', i', rfl, _, _, h4⟩
    · exact .inl (by simp)
    · exact slt_snoc.2 h4
  refine ⟨?_, ?_, ?_, fun z w hz => ?_, fun z w hz => ?_, fun u i z hz hlt => ?_⟩
  · rw [List.getElem?_append_left (by
      have := h.first
      cases D with
      | nil => cases this
      | cons _ _ => simp)]
    exact h.first
  · rw [List.pairwise_append]
    refine ⟨h.inc, List.pairwise_singleton .., fun p hp q hq => ?_⟩
    have : q = (x, v ++ [j]) := by simpa using hq
    subst this
    exact hlt p.1 p.2 hp
  · rw [List.map_append, List.nodup_append]
    refine ⟨h.names, by simp, fun p hp q hq => ?_⟩
    have : q = x := by simpa using hq
    subst this
    exact fun e => hx (e ▸ hp)
  · rcases List.mem_append.1 hz with hz | hz
    · exact h.way z w hz
    · simp at hz
      obtain ⟨rfl, rfl⟩ := hz
      rw [goW_snoc, h.way y v hy]; exact hj
  · rcases List.mem_append.1 hz with hz | hz
    · rcases h.from_ z w hz with h1 | ⟨y, u, i, h1, h2, h3, h4⟩
      · exact .inl h1
      · exact .inr ⟨y, u, i, h1, List.mem_append_left _ h2, h3, h4.imp id (fun h => ⟨h.1, by omega⟩)⟩
    · simp at hz
      obtain ⟨rfl, rfl⟩ := hz
      exact .inr ⟨y, v, j, rfl, List.mem_append_left _ hy, hj, .inr ⟨rfl, by omega⟩⟩
  · by_cases hd : slt u v ∨ (u = v ∧ i < j)
    · obtain ⟨w, h1, h2⟩ := h.all u i z hz hd
      exact ⟨w, List.mem_append_left _ h1, h2⟩
    · have : u = v ∧ i = j := by
        rcases hlt with h1 | ⟨h1, h2⟩
        · exact absurd (.inl h1) hd
        · exact ⟨h1, Classical.byContradiction fun h3 => hd (.inr ⟨h1, by omega⟩)⟩
      obtain ⟨rfl, rfl⟩ := this
      rw [goW_snoc, h.way y u hy] at hz
      have hz' : (next y)[i]? = some z := hz
      rw [hj] at hz'
      injection hz' with hz'
      subst hz'
      exact ⟨_, List.mem_append_right _ (List.mem_cons_self ..), .inr rfl⟩
/-- All that one leads to was come to, and the next one in the row is gone on from. -/
theorem BfsI.turn {next : α → List α} {a : α} {D : List (α × List Nat)} {k : Nat} {y x : α} {v v' : List Nat} {j : Nat} (h : BfsI next a D v j) (hk : D[k]? = some (y, v)) (hj : (next y).length ≤ j) (hk' : D[k + 1]? = some (x, v')) : BfsI next a D v' 0 := by
  have hym : (y, v) ∈ D := List.mem_of_getElem? hk
  have hxm : (x, v') ∈ D := List.mem_of_getElem? hk'
  have hinc : ∀ (p q : Nat) (P Q : α × List Nat), D[p]? = some P → D[q]? = some Q → p < q → slt P.2 Q.2 := fun p q P Q hp hq hlt => by
    obtain ⟨h1, rfl⟩ := List.getElem?_eq_some_iff.1 hp
    obtain ⟨h2, rfl⟩ := List.getElem?_eq_some_iff.1 hq
    exact List.pairwise_iff_getElem.1 h.inc p q h1 h2 hlt
  have hvv : slt v v' := hinc k (k + 1) _ _ hk hk' (by omega)
  have hle : ∀ z w, (z, w) ∈ D → slt w v' → sle w v := fun z w hz hlt => by
    obtain ⟨i, hi⟩ := List.getElem?_of_mem hz
    rcases Nat.lt_trichotomy i k with h1 | rfl | h1
    · exact .inl (hinc i k _ _ hi hk h1)
    · rw [hk] at hi; injection hi with hi; injection hi with _ hi; exact .inr hi.symm
    · rcases Nat.lt_or_ge i (k + 1) with h2 | h2
      · omega
      · rcases Nat.lt_or_ge (k + 1) i with h3 | h3
        · exact absurd (slt_trans hlt (hinc (k + 1) i _ _ hk' hi h3)) (slt_irr w)
        · have : i = k + 1 := by omega
          subst this
          rw [hk'] at hi; injection hi with hi; injection hi with _ hi
          rw [hi] at hlt; exact absurd hlt (slt_irr _)
  refine ⟨h.first, h.inc, h.names, h.way, fun z w hz => ?_, fun u i z hz hlt => ?_⟩
  · rcases h.from_ z w hz with h1 | ⟨y, u, i, h1, h2, h3, h4⟩
    · exact .inl h1
    · refine .inr ⟨y, u, i, h1, h2, h3, .inl ?_⟩
      rcases h4 with h4 | ⟨rfl, _⟩
      · exact slt_trans h4 hvv
      · exact hvv
  · have hu : slt u v' := hlt.resolve_right (fun h9 => by omega)
    -- where u leads
    cases hgu : goW next a u with
    | none => rw [goW_snoc, hgu] at hz; cases hz
    | some y' =>
      rw [goW_snoc, hgu] at hz
      have hz' : (next y')[i]? = some z := hz
      have hent : ∃ w, (y', w) ∈ D ∧ sle w u := by
        rcases List.eq_nil_or_concat u with rfl | ⟨u0, i0, e⟩
        · injection hgu with hgu; subst hgu; exact ⟨[], h.a_mem, .inr rfl⟩
        · rw [List.concat_eq_append] at e
          subst e
          refine h.all u0 i0 y' hgu ?_
          rcases h.from_ x v' hxm with rfl | ⟨y9, v0, j0, rfl, _, _, h4⟩
          · rcases hu with hu | ⟨hu, _⟩ <;> simp at hu
          · rcases slt_snoc.1 hu with h5 | ⟨rfl, h5⟩
            · rcases h4 with h4 | ⟨rfl, _⟩
              · exact .inl (slt_trans h5 h4)
              · exact .inl h5
            · rcases h4 with h4 | ⟨rfl, h4⟩
              · exact .inl h4
              · exact .inr ⟨rfl, by omega⟩
      obtain ⟨w, hw, hwu⟩ := hent
      have hwv := hle y' w hw (hwu.lt hu)
      have hgz : goW next a (w ++ [i]) = some z := by rw [goW_snoc, h.way y' w hw]; exact hz'
      have hcase : slt w v ∨ (w = v ∧ i < j) := by
        rcases hwv with h1 | rfl
        · exact .inl h1
        · have e := h.names
          have hyy : y' = y := by
            have h1 := h.way y' w hw
            rw [h.way y w hym] at h1
            injection h1 with h1; exact h1.symm
          subst hyy
          have := (List.getElem?_eq_some_iff.1 hz').1
          exact .inr ⟨rfl, by omega⟩
      obtain ⟨w2, h1, h2⟩ := h.all w i z hgz hcase
      exact ⟨w2, h1, h2.trans (hwu.snoc i)⟩
/-- All in the row were gone on from: there is no other way. -/
theorem BfsI.over {next : α → List α} {a : α} {D : List (α × List Nat)} {k : Nat} {y : α} {v : List Nat} {j : Nat} (h : BfsI next a D v j) (hk : D[k]? = some (y, v)) (hj : (next y).length ≤ j) (hk' : D.length ≤ k + 1) : ∀ (w : List Nat) z, goW next a w = some z → ∃ w', (z, w') ∈ D ∧ sle w' w := by
  have hym : (y, v) ∈ D := List.mem_of_getElem? hk
  have hle : ∀ z w, (z, w) ∈ D → sle w v := fun z w hz => by
    obtain ⟨i, hi⟩ := List.getElem?_of_mem hz
    have hi9 := (List.getElem?_eq_some_iff.1 hi).1
    rcases Nat.lt_or_ge i k with h1 | h1
    · obtain ⟨h1', e1⟩ := List.getElem?_eq_some_iff.1 hi
      obtain ⟨h2', e2⟩ := List.getElem?_eq_some_iff.1 hk
      have := List.pairwise_iff_getElem.1 h.inc i k h1' h2' h1
      rw [e1, e2] at this
      exact .inl this
    · have : i = k := by omega
      subst this
      rw [hk] at hi; injection hi with hi; injection hi with _ hi; exact .inr hi.symm
  intro w
  generalize hn : w.length = n
  induction n generalizing w with
  | zero =>
    intro z hz
    have : w = [] := List.eq_nil_of_length_eq_zero hn
    subst this
    injection hz with hz; subst hz
    exact ⟨[], h.a_mem, .inr rfl⟩
  | succ n ih =>
    intro z hz
    rcases List.eq_nil_or_concat w with rfl | ⟨u, i, e⟩
    · simp at hn
    · rw [List.concat_eq_append] at e
      subst e
      cases hgu : goW next a u with
      | none => rw [goW_snoc, hgu] at hz; cases hz
      | some y' =>
        rw [goW_snoc, hgu] at hz
        have hz' : (next y')[i]? = some z := hz
        obtain ⟨w, hw, hwu⟩ := ih u (by simpa using hn) y' hgu
        have hgz : goW next a (w ++ [i]) = some z := by rw [goW_snoc, h.way y' w hw]; exact hz'
        have hcase : slt w v ∨ (w = v ∧ i < j) := by
          rcases hle y' w hw with h1 | rfl
          · exact .inl h1
          · have hyy : y' = y := by
              have h1 := h.way y' w hw
              rw [h.way y w hym] at h1
              injection h1 with h1; exact h1.symm
            subst hyy
            have := (List.getElem?_eq_some_iff.1 hz').1
            exact .inr ⟨rfl, by omega⟩
        obtain ⟨w2, h1, h2⟩ := h.all w i z hgz hcase
        exact ⟨w2, h1, h2.trans (hwu.snoc i)⟩
/-- The one that is gone on from now: its way is the least. -/
theorem BfsI.least {next : α → List α} {a : α} {D : List (α × List Nat)} {y : α} {v : List Nat} (h : BfsI next a D v 0) (hy : (y, v) ∈ D) : Least next a y v := by
  refine ⟨h.way y v hy, fun u hu => ?_⟩
  rcases slt_tri v u with h1 | h1 | h1
  · exact .inl h1
  · exact .inr h1
  · exfalso
    rcases List.eq_nil_or_concat u with rfl | ⟨u0, i0, e⟩
    · injection hu with hu; subst hu
      have := h.one hy h.a_mem
      subst this
      exact slt_irr _ h1
    · rw [List.concat_eq_append] at e
      subst e
      obtain ⟨w, h2, h3⟩ := h.all u0 i0 y hu (by
        rcases h.from_ y v hy with rfl | ⟨y9, v0, j0, rfl, _, _, h4⟩
        · rcases h1 with h1 | ⟨h1, _⟩ <;> simp at h1
        · left
          left
          have hl : (u0 ++ [i0]).length ≤ (v0 ++ [j0]).length := by
            rcases h1 with h1 | ⟨h1, _⟩ <;> omega
          simp at hl ⊢; omega)
      have := h.one h2 hy
      subst this
      exact slt_irr _ (h3.lt h1)
end
end Go.Proofs.Ytjfhncbfbhkhgaa
