/- The groups in their row, as the document tells it: from thing to thing. No program, no conditions but those that each theorem names. -/
import Derived.Test.YthmnghngcbkjpaaGraph
namespace Go.Proofs.Ythmnghngcbkjpaa

/-- 'ld' tells who leads to whom. -/
def LdIs (n : Nat) (L : Nat → List Int) (ld : Nat → Nat → Bool) : Prop := ∀ i k, i < n → k < n → (ld i k = true ↔ Leads n L i k)
theorem ld_some (n : Nat) (L : Nat → List Int) : ∃ ld, LdIs n L ld := by
  classical
  exact ⟨fun i k => decide (Leads n L i k), fun i k _ _ => by simp⟩
def mutB (ld : Nat → Nat → Bool) (i k : Nat) : Bool := ld i k && ld k i
def cls (n : Nat) (ld : Nat → Nat → Bool) (i : Nat) : List Nat := (List.range n).filter (fun k => mutB ld i k)
def blocks (ld : Nat → Nat → Bool) (dn : Nat → Bool) (i k : Nat) : Bool := (ld i k && !ld k i) && !dn k
def ready (n : Nat) (ld : Nat → Nat → Bool) (dn : Nat → Bool) (i : Nat) : Bool := !dn i && (List.range n).all (fun k => !blocks ld dn i k)
def next (n : Nat) (ld : Nat → Nat → Bool) (dn : Nat → Bool) : Option Nat := (List.range n).find? (fun i => ready n ld dn i)
def more (ld : Nat → Nat → Bool) (dn : Nat → Bool) (i : Nat) : Nat → Bool := fun k => dn k || mutB ld i k
/-- So many groups are told, in their row. -/
inductive Told (n : Nat) (ld : Nat → Nat → Bool) : (Nat → Bool) → List (List Nat) → Prop
  | nil : Told n ld (fun _ => false) []
  | snoc {dn : Nat → Bool} {r : List (List Nat)} {i : Nat} : Told n ld dn r → next n ld dn = some i → Told n ld (more ld dn i) (r ++ [cls n ld i])
def runs (n : Nat) (ld : Nat → Nat → Bool) : Nat → (Nat → Bool) × List (List Nat)
  | 0 => (fun _ => false, [])
  | k + 1 => match next n ld (runs n ld k).1 with
    | none => runs n ld k
    | some i => (more ld (runs n ld k).1 i, (runs n ld k).2 ++ [cls n ld i])
theorem Told.run {n : Nat} {ld : Nat → Nat → Bool} {dn : Nat → Bool} {r : List (List Nat)} (h : Told n ld dn r) : runs n ld r.length = (dn, r) := by
  induction h with
  | nil => rfl
  | @snoc dn r i _ hn ih =>
    rw [List.length_append, List.length_singleton]
    show (match next n ld (runs n ld r.length).1 with
    | none => runs n ld r.length
    | some i => (more ld (runs n ld r.length).1 i, (runs n ld r.length).2 ++ [cls n ld i])) = _
    rw [ih]
    simp only [hn]
theorem runs_stay {n : Nat} {ld : Nat → Nat → Bool} {k : Nat} (h : next n ld (runs n ld k).1 = none) (j : Nat) : runs n ld (k + j) = runs n ld k := by
  induction j with
  | zero => rfl
  | succ j ih =>
    show (match next n ld (runs n ld (k + j)).1 with
    | none => runs n ld (k + j)
    | some i => (more ld (runs n ld (k + j)).1 i, (runs n ld (k + j)).2 ++ [cls n ld i])) = _
    rw [ih]
    simp only [h]
theorem Told.one {n : Nat} {ld : Nat → Nat → Bool} {dn dn' : Nat → Bool} {r r' : List (List Nat)} (h : Told n ld dn r) (h' : Told n ld dn' r') (e : next n ld dn = none) (e' : next n ld dn' = none) : r = r' := by
  have a := h.run
  have a' := h'.run
  have b : runs n ld (r.length + r'.length) = (dn, r) := by rw [runs_stay (by rw [a]; exact e), a]
  have b' : runs n ld (r.length + r'.length) = (dn', r') := by rw [Nat.add_comm, runs_stay (by rw [a']; exact e'), a']
  rw [b] at b'
  exact (Prod.mk.inj b').2
/-- All groups are told, in their row. -/
def IsRow (n : Nat) (ld : Nat → Nat → Bool) (r : List (List Nat)) : Prop := ∃ dn, Told n ld dn r ∧ next n ld dn = none
theorem IsRow.one {n : Nat} {ld : Nat → Nat → Bool} {r r' : List (List Nat)} (h : IsRow n ld r) (h' : IsRow n ld r') : r = r' := by
  obtain ⟨_, a, b⟩ := h
  obtain ⟨_, a', b'⟩ := h'
  exact a.one a' b b'
theorem next_some {n : Nat} {ld : Nat → Nat → Bool} {dn : Nat → Bool} {i : Nat} (h : next n ld dn = some i) : i < n ∧ ready n ld dn i = true := by
  have h1 := List.find?_some h
  have h2 := List.mem_of_find?_eq_some h
  exact ⟨List.mem_range.1 h2, h1⟩
theorem ready_iff {n : Nat} {ld : Nat → Nat → Bool} {dn : Nat → Bool} {i : Nat} : ready n ld dn i = true ↔ (dn i = false ∧ ∀ k, k < n → ld i k = true → ld k i = false → dn k = true) := by
  unfold ready blocks
  rw [Bool.and_eq_true, List.all_eq_true]
  constructor
  · rintro ⟨a, b⟩
    refine ⟨by simpa using a, fun k hk h1 h2 => ?_⟩
    have := b k (List.mem_range.2 hk)
    simp [h1, h2] at this; exact this
  · rintro ⟨a, b⟩
    refine ⟨by simp [a], fun k hk => ?_⟩
    have := b k (List.mem_range.1 hk)
    cases h1 : ld i k <;> cases h2 : ld k i <;> simp_all
theorem mem_cls {n : Nat} {ld : Nat → Nat → Bool} {i k : Nat} : k ∈ cls n ld i ↔ k < n ∧ ld i k = true ∧ ld k i = true := by
  unfold cls mutB
  rw [List.mem_filter, List.mem_range, Bool.and_eq_true]

section
variable {n : Nat} {L : Nat → List Int} {ld : Nat → Nat → Bool}
theorem LdIs.mutual_ (h : LdIs n L ld) {i k : Nat} (hi : i < n) (hk : k < n) : mutB ld i k = true ↔ Mut n L i k := by
  unfold mutB Mut
  rw [Bool.and_eq_true, h i k hi hk, h k i hk hi]
/-- What holds of groups that are told. -/
structure ToldOk (n : Nat) (L : Nat → List Int) (dn : Nat → Bool) (r : List (List Nat)) : Prop where
  lt : ∀ g ∈ r, ∀ x ∈ g, x < n
  all : ∀ x, x < n → (dn x = true ↔ ∃ g ∈ r, x ∈ g)
  both : ∀ g ∈ r, ∀ x ∈ g, ∀ y, y < n → (y ∈ g ↔ Mut n L x y)
  down : ∀ x y, x < n → y < n → dn x = true → Leads n L x y → dn y = true
  once : ∀ i j (hi : i < r.length) (hj : j < r.length) x, x ∈ r[i] → x ∈ r[j] → i = j
  row : ∀ i j (hi : i < r.length) (hj : j < r.length) x y, x ∈ r[i] → y ∈ r[j] → Leads n L x y → j ≤ i
  nodup : ∀ g ∈ r, g.Nodup
  rise : ∀ g ∈ r, ∃ x, x < n ∧ g = cls n ld x
theorem nodup_range (n : Nat) : (List.range n).Nodup := List.nodup_range
theorem Told.ok (h : LdIs n L ld) {dn : Nat → Bool} {r : List (List Nat)} (ht : Told n ld dn r) : ToldOk (ld := ld) n L dn r := by
  induction ht with
  | nil => exact ⟨by simp, fun x _ => by simp, by simp, fun x y _ _ e => by simp at e, fun i j hi => by simp at hi, fun i j hi => by simp at hi, by simp, by simp⟩
  | @snoc dn r i ht hn ih =>
    obtain ⟨hi, hr⟩ := next_some hn
    obtain ⟨hd, hr⟩ := ready_iff.1 hr
    have hmem : ∀ y, y ∈ cls n ld i ↔ y < n ∧ Mut n L i y := by
      intro y
      rw [mem_cls]
      constructor
      · rintro ⟨a, b, c⟩; exact ⟨a, (h i y hi a).1 b, (h y i a hi).1 c⟩
      · rintro ⟨a, b, c⟩; exact ⟨a, (h i y hi a).2 b, (h y i a hi).2 c⟩
    have hnot : ∀ y, y ∈ cls n ld i → dn y = false := by
      intro y hy
      obtain ⟨hy1, hy2⟩ := (hmem y).1 hy
      cases e : dn y with
      | false => rfl
      | true => have := ih.down y i hy1 hi e hy2.2; rw [hd] at this; cases this
    have hmore : ∀ y, y < n → (more ld dn i y = true ↔ (dn y = true ∨ y ∈ cls n ld i)) := by
      intro y hy
      unfold more
      rw [Bool.or_eq_true, h.mutual_ hi hy, hmem]
      simp [hy]
    refine ⟨?_, ?_, ?_, ?_, ?_, ?_, ?_, ?_⟩
    · intro g hg x hx
      rcases List.mem_append.1 hg with hg | hg
      · exact ih.lt g hg x hx
      · rw [List.mem_singleton.1 hg] at hx; exact ((hmem x).1 hx).1
    · intro x hx
      rw [hmore x hx, ih.all x hx]
      constructor
      · rintro (⟨g, a, b⟩ | a)
        · exact ⟨g, List.mem_append_left _ a, b⟩
        · exact ⟨_, List.mem_append_right _ (List.mem_singleton.2 rfl), a⟩
      · rintro ⟨g, a, b⟩
        rcases List.mem_append.1 a with a | a
        · exact .inl ⟨g, a, b⟩
        · rw [List.mem_singleton.1 a] at b; exact .inr b
    · intro g hg x hx y hy
      rcases List.mem_append.1 hg with hg | hg
      · exact ih.both g hg x hx y hy
      · rw [List.mem_singleton.1 hg] at hx ⊢
        rw [hmem]
        have hx2 := ((hmem x).1 hx).2
        constructor
        · rintro ⟨_, a⟩; exact hx2.symm.trans a
        · intro a; exact ⟨hy, hx2.trans a⟩
    · intro x y hx hy hdx hl
      rw [hmore x hx] at hdx
      rw [hmore y hy]
      rcases hdx with hdx | hdx
      · exact .inl (ih.down x y hx hy hdx hl)
      · have hx2 := ((hmem x).1 hdx).2
        by_cases hyi : Leads n L y i
        · exact .inr ((hmem y).2 ⟨hy, hx2.1.trans hl, hyi⟩)
        · refine .inl (hr y hy ((h i y hi hy).2 (hx2.1.trans hl)) ?_)
          cases e : ld y i with
          | false => rfl
          | true => exact absurd ((h y i hy hi).1 e) hyi
    · intro a b ha hb x hxa hxb
      rw [List.length_append, List.length_singleton] at ha hb
      by_cases ha' : a < r.length
      · by_cases hb' : b < r.length
        · rw [List.getElem_append_left ha'] at hxa
          rw [List.getElem_append_left hb'] at hxb
          exact ih.once a b ha' hb' x hxa hxb
        · have : b = r.length := by omega
          subst this
          rw [List.getElem_append_left ha'] at hxa
          rw [List.getElem_append_right (Nat.le_refl _)] at hxb
          simp at hxb
          have h1 := hnot x hxb
          have h2 := (ih.all x ((hmem x).1 hxb).1).2 ⟨_, List.getElem_mem ha', hxa⟩
          rw [h1] at h2; cases h2
      · have : a = r.length := by omega
        subst this
        by_cases hb' : b < r.length
        · rw [List.getElem_append_left hb'] at hxb
          rw [List.getElem_append_right (Nat.le_refl _)] at hxa
          simp at hxa
          have h1 := hnot x hxa
          have h2 := (ih.all x ((hmem x).1 hxa).1).2 ⟨_, List.getElem_mem hb', hxb⟩
          rw [h1] at h2; cases h2
        · omega
    · intro a b ha hb x y hxa hyb hl
      rw [List.length_append, List.length_singleton] at ha hb
      by_cases ha' : a < r.length
      · by_cases hb' : b < r.length
        · rw [List.getElem_append_left ha'] at hxa
          rw [List.getElem_append_left hb'] at hyb
          exact ih.row a b ha' hb' x y hxa hyb hl
        · have : b = r.length := by omega
          subst this
          rw [List.getElem_append_left ha'] at hxa
          rw [List.getElem_append_right (Nat.le_refl _)] at hyb
          simp at hyb
          have hxn := ih.lt _ (List.getElem_mem ha') x hxa
          have h2 := (ih.all x hxn).2 ⟨_, List.getElem_mem ha', hxa⟩
          have h3 := ih.down x y hxn ((hmem y).1 hyb).1 h2 hl
          rw [hnot y hyb] at h3; cases h3
      · omega
    · intro g hg
      rcases List.mem_append.1 hg with hg | hg
      · exact ih.nodup g hg
      · rw [List.mem_singleton.1 hg]; exact (nodup_range n).filter _
    · intro g hg
      rcases List.mem_append.1 hg with hg | hg
      · exact ih.rise g hg
      · exact ⟨i, hi, List.mem_singleton.1 hg⟩
/-- How many things one leads to. -/
def reach (n : Nat) (ld : Nat → Nat → Bool) (i : Nat) : Nat := ((List.range n).filter (fun k => ld i k)).length
theorem filter_lt {l : List Nat} {p q : Nat → Bool} (h : ∀ x ∈ l, p x = true → q x = true) {y : Nat} (hy : y ∈ l) (hq : q y = true) (hp : p y = false) : (l.filter p).length < (l.filter q).length := by
  induction l with
  | nil => cases hy
  | cons a r ih =>
    have hle : ∀ r : List Nat, (∀ x ∈ r, p x = true → q x = true) → (r.filter p).length ≤ (r.filter q).length := by
      intro r hr
      induction r with
      | nil => simp
      | cons b r ih' =>
        have := ih' (fun x hx => hr x (List.mem_cons_of_mem _ hx))
        have h1 := hr b List.mem_cons_self
        simp only [List.filter_cons]
        cases hb : p b
        · cases q b <;> simp <;> omega
        · rw [h1 hb]; simp; omega
    simp only [List.filter_cons]
    rcases List.mem_cons.1 hy with rfl | hy
    · rw [hq, hp]
      have := hle r (fun x hx => h x (List.mem_cons_of_mem _ hx))
      simp; omega
    · have := ih (fun x hx => h x (List.mem_cons_of_mem _ hx)) hy
      have h1 := h a List.mem_cons_self
      cases hb : p a
      · cases q a <;> simp <;> omega
      · rw [h1 hb]; simp; omega
/-- Where nothing is ready, all is told. -/
theorem all_told (h : LdIs n L ld) {dn : Nat → Bool} (hn : next n ld dn = none) : ∀ m x, reach n ld x ≤ m → x < n → dn x = true := by
  have hnr : ∀ x, x < n → ready n ld dn x = false := by
    intro x hx
    have := List.find?_eq_none.1 hn x (List.mem_range.2 hx)
    simpa using this
  intro m
  induction m with
  | zero =>
    intro x hm hx
    exfalso
    have : x ∈ (List.range n).filter (fun k => ld x k) := by
      rw [List.mem_filter]
      exact ⟨List.mem_range.2 hx, (h x x hx hx).2 (.refl _)⟩
    have := List.length_pos_of_mem this
    unfold reach at hm; omega
  | succ m ih =>
    intro x hm hx
    cases hd : dn x with
    | true => rfl
    | false =>
      have hr : ready n ld dn x = true := by
        refine ready_iff.2 ⟨hd, fun k hk h1 h2 => ih k ?_ hk⟩
        have : reach n ld k < reach n ld x := by
          unfold reach
          refine filter_lt (y := x) (fun y hy hky => ?_) (List.mem_range.2 hx) ((h x x hx hx).2 (.refl _)) h2
          have hy := List.mem_range.1 hy
          exact (h x y hx hy).2 (((h x k hx hk).1 h1).trans ((h k y hk hy).1 hky))
        omega
      rw [hnr x hx] at hr; cases hr
end
end Go.Proofs.Ythmnghngcbkjpaa
