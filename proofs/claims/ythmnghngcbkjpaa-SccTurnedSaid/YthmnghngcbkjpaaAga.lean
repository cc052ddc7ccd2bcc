/- Uses that are said again, or of none; things counted from the end: the groups stay (mathematics; no program). No conditions but those that each theorem names. -/
import Derived.Test.YthmnghngcbkjpaaOnce
import Derived.Test.YthmnghngcbkjpaaMem
namespace Go.Proofs.Ythmnghngcbkjpaa
theorem Leads.same {n : Nat} {L L' : Nat → List Int} (h : ∀ i k, Edge n L i k → i = k ∨ Edge n L' i k) {i k : Nat} (hl : Leads n L i k) : Leads n L' i k := by
  induction hl with
  | refl => exact .refl _
  | step _ e ih =>
    rcases h _ _ e with rfl | e'
    · exact ih
    · exact .step ih e'
theorem LdIs.same {n : Nat} {L L' : Nat → List Int} {ld : Nat → Nat → Bool} (h : LdIs n L ld) (h1 : ∀ i k, Edge n L i k → i = k ∨ Edge n L' i k) (h2 : ∀ i k, Edge n L' i k → i = k ∨ Edge n L i k) : LdIs n L' ld :=
  fun i k hi hk => (h i k hi hk).trans ⟨Leads.same h1, Leads.same h2⟩
/-- The same lists, but that one says more: numbers of none, its own, those that it says. -/
theorem useL_set {M : List (List Int)} {i : Nat} {r : List Int} (hi : i < M.length) (j : Nat) : useL (M.set i r) j = if j = i then r else useL M j := by
  unfold useL
  rw [List.getD_eq_getElem?_getD, List.getD_eq_getElem?_getD, List.getElem?_set]
  by_cases e : i = j
  · subst e; simp [hi]
  · rw [if_neg e, if_neg (fun h => e h.symm)]
theorem LdIs.again {n : Nat} {M : List (List Int)} {ld : Nat → Nat → Bool} (h : LdIs n (useL M) ld) {i : Nat} (hi : i < M.length) {x : List Int} (hx : ∀ z ∈ x, z < 0 ∨ (n : Int) ≤ z ∨ z = i ∨ z ∈ M[i]) :
    LdIs n (useL (M.set i (M[i] ++ x))) ld := by
  refine h.same (fun a k e => .inr ⟨e.1, e.2.1, ?_⟩) (fun a k e => ?_)
  · rw [useL_set hi]
    have he := e.2.2
    by_cases ha : a = i
    · subst ha
      rw [if_pos rfl]
      rw [useL_in hi] at he
      exact List.mem_append_left _ he
    · rw [if_neg ha]; exact he
  · obtain ⟨h1, h2, h3⟩ := e
    rw [useL_set hi] at h3
    by_cases ha : a = i
    · subst ha
      rw [if_pos rfl, List.mem_append] at h3
      rcases h3 with h3 | h3
      · exact .inr ⟨h1, h2, by rw [useL_in hi]; exact h3⟩
      · rcases hx _ h3 with hz | hz | hz | hz
        · omega
        · omega
        · left; omega
        · exact .inr ⟨h1, h2, by rw [useL_in hi]; exact hz⟩
    · rw [if_neg ha] at h3
      exact .inr ⟨h1, h2, h3⟩
/-- The groups' numbers tell who is in one group. -/
theorem RowOk.numbers {n : Nat} {L : Nat → List Int} {r : List (List Nat)} (h : RowOk n L r) {p : Nat → Nat} (hp : ∀ a (ha : a < r.length) x, x ∈ r[a] → p x = a + 1) {x y : Nat} (hx : x < n) (hy : y < n) :
    p x = p y ↔ Mut n L x y := by
  obtain ⟨g, hg, hxg⟩ := List.mem_flatten.1 ((h.mem x).2 hx)
  obtain ⟨a, ha, rfl⟩ := List.getElem_of_mem hg
  obtain ⟨g', hg', hyg⟩ := List.mem_flatten.1 ((h.mem y).2 hy)
  obtain ⟨b, hb, rfl⟩ := List.getElem_of_mem hg'
  have e1 := hp a ha x hxg
  have e2 := hp b hb y hyg
  constructor
  · intro e
    have hab : a = b := by omega
    subst hab
    exact (h.both _ hg x hxg y hy).1 hyg
  · intro hm
    have hya := (h.both _ hg x hxg y hy).2 hm
    have e3 := hp a ha y hya
    omega
/-- Things counted from the end. -/
theorem Leads.turned {n : Nat} {L L' : Nat → List Int} (h : ∀ i k, Edge n L i k → Edge n L' (n - 1 - i) (n - 1 - k)) {i k : Nat} (hl : Leads n L i k) : Leads n L' (n - 1 - i) (n - 1 - k) := by
  induction hl with
  | refl => exact .refl _
  | step _ e ih => exact .step ih (h _ _ e)
theorem Mut.turned {n : Nat} {L L' : Nat → List Int} (h1 : ∀ i k, Edge n L i k → Edge n L' (n - 1 - i) (n - 1 - k)) (h2 : ∀ i k, Edge n L' i k → Edge n L (n - 1 - i) (n - 1 - k)) {i k : Nat} (hi : i < n) (hk : k < n) :
    Mut n L i k ↔ Mut n L' (n - 1 - i) (n - 1 - k) := by
  constructor
  · exact fun h => ⟨Leads.turned h1 h.1, Leads.turned h1 h.2⟩
  · intro h
    have a := Leads.turned h2 h.1
    have b := Leads.turned h2 h.2
    rw [show n - 1 - (n - 1 - i) = i by omega, show n - 1 - (n - 1 - k) = k by omega] at a b
    exact ⟨a, b⟩
/-- The uses, counted from the end: those of things that are. -/
def turnL (n : Nat) (L : Nat → List Int) (i : Nat) : List Int := if i < n then ((L (n - 1 - i)).filter (fun z : Int => decide (0 ≤ z) && decide (z < (n : Int)))).map (fun z : Int => (n : Int) - 1 - z) else []
theorem turnL_edge {n : Nat} {L : Nat → List Int} {i k : Nat} (hi : i < n) (hk : k < n) : Edge n (turnL n L) i k ↔ Edge n L (n - 1 - i) (n - 1 - k) := by
  unfold Edge turnL
  rw [if_pos hi]
  constructor
  · rintro ⟨_, _, h⟩
    obtain ⟨z, hz, e⟩ := List.mem_map.1 h
    obtain ⟨hz1, hz2⟩ := List.mem_filter.1 hz
    simp only [Bool.and_eq_true, decide_eq_true_eq] at hz2
    exact ⟨by omega, by omega, by rw [show ((n - 1 - k : Nat) : Int) = z by omega]; exact hz1⟩
  · rintro ⟨_, _, h⟩
    exact ⟨hi, hk, List.mem_map.2 ⟨((n - 1 - k : Nat) : Int), List.mem_filter.2 ⟨h, by simp only [Bool.and_eq_true, decide_eq_true_eq]; omega⟩, by omega⟩⟩
theorem Mut.turn {n : Nat} {L : Nat → List Int} {i k : Nat} (hi : i < n) (hk : k < n) : Mut n L i k ↔ Mut n (turnL n L) (n - 1 - i) (n - 1 - k) := by
  refine Mut.turned (fun a b e => (turnL_edge (by have := e.1; omega) (by have := e.2.1; omega)).2 ?_) (fun a b e => (turnL_edge e.1 e.2.1).1 e) hi hk
  rw [show n - 1 - (n - 1 - a) = a by have := e.1; omega, show n - 1 - (n - 1 - b) = b by have := e.2.1; omega]
  exact e
end Go.Proofs.Ythmnghngcbkjpaa
