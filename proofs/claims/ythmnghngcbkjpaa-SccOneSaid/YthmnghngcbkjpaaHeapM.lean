/- A heap of numbers: the least one stands first. No program, no conditions but those that each theorem names. -/
namespace Go.Proofs.Ythmnghngcbkjpaa

def swp (a : List Nat) (i j : Nat) : List Nat := (a.set i (a.getD j 0)).set j (a.getD i 0)
theorem swp_length (a : List Nat) (i j : Nat) : (swp a i j).length = a.length := by simp [swp]
theorem swp_perm (a : List Nat) {i j : Nat} (hi : i < a.length) (hj : j < a.length) : (swp a i j).Perm a := by
  unfold swp
  rw [List.getD_eq_getElem?_getD, List.getElem?_eq_getElem hj, List.getD_eq_getElem?_getD, List.getElem?_eq_getElem hi]
  exact List.set_set_perm hi hj
theorem swp_at (a : List Nat) {i j k : Nat} (hi : i < a.length) (hj : j < a.length) : (swp a i j).getD k 0 = if k = j then a.getD i 0 else if k = i then a.getD j 0 else a.getD k 0 := by
  unfold swp
  simp only [List.getD_eq_getElem?_getD, List.getElem?_set, List.length_set]
  by_cases h1 : k = j
  · subst h1
    simp [hj]
  · have h1' : ¬ j = k := fun e => h1 e.symm
    by_cases h2 : k = i
    · subst h2
      simp [hi, h1, h1', hj]
    · have h2' : ¬ i = k := fun e => h2 e.symm
      simp [h1, h1', h2, h2']
def par (j : Nat) : Nat := (j - 1) / 2
/-- The least of what is behind stands ahead, but for one pair. -/
def HeapX (a : List Nat) (n x : Nat) : Prop := ∀ j, 0 < j → j < n → j ≠ x → a.getD (par j) 0 ≤ a.getD j 0
def Heap (a : List Nat) (n : Nat) : Prop := ∀ j, 0 < j → j < n → a.getD (par j) 0 ≤ a.getD j 0
/-- On the way up from 'x'. -/
def UpInv (a : List Nat) (n x : Nat) : Prop := HeapX a n x ∧ (0 < x → ∀ j, 0 < j → j < n → par j = x → a.getD (par x) 0 ≤ a.getD j 0)
theorem Heap.up {a : List Nat} {n : Nat} (h : Heap a (n - 1)) (hn : 0 < n) : UpInv a n (n - 1) := by
  refine ⟨fun j h0 h1 h2 => h j h0 (by omega), fun _ j h0 h1 h2 => ?_⟩
  unfold par at h2; omega
theorem UpInv.stop {a : List Nat} {n x : Nat} (h : UpInv a n x) (hx : x = 0 ∨ a.getD (par x) 0 ≤ a.getD x 0) : Heap a n := by
  intro j h0 h1
  by_cases e : j = x
  · subst e
    rcases hx with hx | hx
    · omega
    · exact hx
  · exact h.1 j h0 h1 e
theorem UpInv.swap {a : List Nat} {n x : Nat} (h : UpInv a n x) (hx : 0 < x) (hxn : x < n) (hn : n ≤ a.length) (hlt : a.getD x 0 < a.getD (par x) 0) : UpInv (swp a (par x) x) n (par x) := by
  have hp : par x < x := by unfold par; omega
  have hat := fun k => swp_at a (i := par x) (j := x) (k := k) (by omega) (by omega)
  refine ⟨fun j h0 h1 h2 => ?_, fun hpx j h0 h1 h2 => ?_⟩
  · have hpj : par j < j := by unfold par; omega
    rw [hat, hat]
    by_cases e1 : j = x
    · subst e1
      rw [if_neg (by omega), if_pos rfl, if_pos rfl]; omega
    · rw [if_neg e1, if_neg h2]
      by_cases e2 : par j = x
      · rw [if_pos e2]
        exact h.2 hx j h0 h1 e2
      · rw [if_neg e2]
        by_cases e3 : par j = par x
        · rw [if_pos e3]
          have := h.1 j h0 h1 e1
          rw [e3] at this; omega
        · rw [if_neg e3]; exact h.1 j h0 h1 e1
  · have hpp : par (par x) < par x := by unfold par at *; omega
    rw [hat, hat, if_neg (by omega), if_neg (by omega)]
    have h3 := h.1 (par x) hpx (by omega) (by omega)
    by_cases e1 : j = x
    · rw [if_pos e1]; exact h3
    · rw [if_neg e1, if_neg (by intro e; rw [e] at h2; omega)]
      have := h.1 j h0 h1 e1
      rw [h2] at this; omega
/-- On the way down from 'x'. -/
def DownInv (a : List Nat) (n x : Nat) : Prop := (∀ j, 0 < j → j < n → par j ≠ x → a.getD (par j) 0 ≤ a.getD j 0) ∧ (0 < x → ∀ j, 0 < j → j < n → par j = x → a.getD (par x) 0 ≤ a.getD j 0)
theorem Heap.first {a : List Nat} {n : Nat} (h : Heap a n) : ∀ j, j < n → a.getD 0 0 ≤ a.getD j 0 := by
  intro j
  induction j using Nat.strongRecOn with
  | ind j ih =>
    intro hj
    by_cases e : j = 0
    · subst e; exact Nat.le_refl _
    · have := ih (par j) (by unfold par; omega) (by unfold par; omega)
      have := h j (by omega) hj
      omega
/-- The first one and the last one change places. -/
theorem Heap.down {a : List Nat} {n : Nat} (h : Heap a (n + 1)) (hn : n + 1 = a.length) : DownInv (swp a 0 n) n 0 := by
  have hat := fun k => swp_at a (i := 0) (j := n) (k := k) (by omega) (by omega)
  refine ⟨fun j h0 h1 h2 => ?_, fun h => by omega⟩
  have hpj : par j < j := by unfold par; omega
  rw [hat, hat, if_neg (by omega), if_neg h2, if_neg (by omega), if_neg (by omega)]
  exact h j h0 (by omega)
theorem DownInv.stop {a : List Nat} {n x : Nat} (h : DownInv a n x) (hx : ∀ j, 0 < j → j < n → par j = x → a.getD x 0 ≤ a.getD j 0) : Heap a n := by
  intro j h0 h1
  by_cases e : par j = x
  · rw [e]; exact hx j h0 h1 e
  · exact h.1 j h0 h1 e
theorem DownInv.swap {a : List Nat} {n x c : Nat} (h : DownInv a n x) (hc0 : 0 < c) (hc : c < n) (hcp : par c = x) (hn : n ≤ a.length) (hlt : a.getD c 0 < a.getD x 0) (hleast : ∀ j, 0 < j → j < n → par j = x → a.getD c 0 ≤ a.getD j 0) : DownInv (swp a x c) n c := by
  have hxc : x < c := by rw [← hcp]; unfold par; omega
  have hat := fun k => swp_at a (i := x) (j := c) (k := k) (by omega) (by omega)
  refine ⟨fun j h0 h1 h2 => ?_, fun _ j h0 h1 h2 => ?_⟩
  · have hpj : par j < j := by unfold par; omega
    rw [hat, hat, if_neg h2]
    by_cases e1 : j = c
    · subst e1
      rw [if_pos hcp, if_pos rfl]; omega
    · rw [if_neg e1]
      by_cases e2 : par j = x
      · rw [if_pos e2, if_neg (by omega)]
        exact hleast j h0 h1 e2
      · rw [if_neg e2]
        by_cases e3 : j = x
        · subst e3
          rw [if_pos rfl]
          exact h.2 h0 c hc0 hc hcp
        · rw [if_neg e3]; exact h.1 j h0 h1 e2
  · rw [hat, hat, if_neg (by omega), if_pos hcp, if_neg (by intro e; rw [e] at h2; omega), if_neg (by intro e; rw [e] at h2; unfold par at *; omega)]
    have := h.1 j h0 h1 (by omega)
    rw [h2] at this; exact this
end Go.Proofs.Ythmnghngcbkjpaa
