/- The mathematics of a walk that goes to things and all to which they lead, each once, and keeps its path itself. No program; no conditions but those that each theorem names. -/
namespace Go.Proofs.Ytjfhncbfbhkhgaa
section
variable {α σ : Type} [DecidableEq α]

/-- A walk's state: what was come to (the last first), the path (its end first: each with what it still leads to), and what the walker keeps. -/
structure DS (α σ : Type) where
  seen : List α
  path : List (α × List α)
  st : σ
/-- What a walk is given. -/
structure Wk (α σ : Type) where
  next : α → List α
  come : σ → α → σ
  leave : σ → α → σ
def Wk.enter (k : Wk α σ) (x : α) (d : DS α σ) : DS α σ := if x ∈ d.seen then d else ⟨x :: d.seen, (x, k.next x) :: d.path, k.come d.st x⟩
def Wk.step (k : Wk α σ) (d : DS α σ) : DS α σ := match d.path with
  | [] => d
  | (n, []) :: p => ⟨d.seen, p, k.leave d.st n⟩
  | (n, x :: l) :: p => k.enter x ⟨d.seen, (n, l) :: p, d.st⟩
def Wk.run (k : Wk α σ) : Nat → DS α σ → DS α σ
  | 0, d => d
  | n + 1, d => k.run n (k.step d)
theorem run_add (k : Wk α σ) : ∀ (n m : Nat) (d : DS α σ), k.run (n + m) d = k.run m (k.run n d)
  | 0, m, d => by simp [Wk.run]
  | n + 1, m, d => by rw [show n + 1 + m = (n + m) + 1 by omega]; exact run_add k n m (k.step d)
theorem run_ended (k : Wk α σ) : ∀ (n : Nat) (d : DS α σ), d.path = [] → k.run n d = d
  | 0, _, _ => rfl
  | n + 1, d, h => by
    have e : k.step d = d := by unfold Wk.step; rw [h]
    show k.run n (k.step d) = d
    rw [e]; exact run_ended k n d h
/-- Two runs that have ended are one. -/
theorem run_unique (k : Wk α σ) {n m : Nat} {d : DS α σ} (hn : (k.run n d).path = []) (hm : (k.run m d).path = []) : k.run n d = k.run m d := by
  rcases Nat.le_total n m with h | h
  · obtain ⟨j, rfl⟩ := Nat.exists_eq_add_of_le h
    rw [run_add, run_ended k j _ hn]
  · obtain ⟨j, rfl⟩ := Nat.exists_eq_add_of_le h
    rw [run_add, run_ended k j _ hm]
theorem run_inv (k : Wk α σ) {I : DS α σ → Prop} (hs : ∀ d, I d → I (k.step d)) : ∀ (n : Nat) (d : DS α σ), I d → I (k.run n d)
  | 0, _, h => h
  | n + 1, d, h => run_inv k hs n _ (hs d h)
/-- How much is left: of those that were not come to, and of the path. -/
def unsM (k : Wk α σ) (U : List α) (seen : List α) : Nat := (U.map (fun u => if u ∈ seen then 0 else 2 + (k.next u).length)).sum
def pathM (p : List (α × List α)) : Nat := (p.map (fun e => 1 + e.2.length)).sum
def Wk.left (k : Wk α σ) (U : List α) (d : DS α σ) : Nat := unsM k U d.seen + pathM d.path
theorem unsM_enter (k : Wk α σ) {U : List α} {seen : List α} {x : α} (hx : x ∈ U) (h : x ∉ seen) : unsM k U (x :: seen) + 2 + (k.next x).length ≤ unsM k U seen := by
  unfold unsM
  induction U with
  | nil => cases hx
  | cons u U ih =>
    simp only [List.map_cons, List.sum_cons]
    have hle : ∀ V : List α, (V.map (fun u => if u ∈ x :: seen then 0 else 2 + (k.next u).length)).sum ≤ (V.map (fun u => if u ∈ seen then 0 else 2 + (k.next u).length)).sum := by
      intro V
      induction V with
      | nil => simp
      | cons v V ihV =>
        simp only [List.map_cons, List.sum_cons]
        have : (if v ∈ x :: seen then 0 else 2 + (k.next v).length) ≤ (if v ∈ seen then 0 else 2 + (k.next v).length) := by
          by_cases hv : v ∈ seen
          · rw [if_pos (List.mem_cons_of_mem _ hv)]; omega
          · rw [if_neg hv]; split <;> omega
        omega
    by_cases e : u = x
    · subst e
      rw [if_pos (List.mem_cons_self ..), if_neg h]
      have := hle U
      omega
    · have hx' : x ∈ U := by
        rcases List.mem_cons.1 hx with h' | h'
        · exact absurd h'.symm e
        · exact h'
      have := ih hx'
      have : (if u ∈ x :: seen then 0 else 2 + (k.next u).length) ≤ (if u ∈ seen then 0 else 2 + (k.next u).length) := by
        by_cases hv : u ∈ seen
        · rw [if_pos (List.mem_cons_of_mem _ hv)]; omega
        · rw [if_neg hv]; split <;> omega
      omega
/-- All that the walk may come to. -/
structure InU (k : Wk α σ) (U : List α) (d : DS α σ) : Prop where
  closed : ∀ u ∈ U, ∀ x ∈ k.next u, x ∈ U
  path : ∀ e ∈ d.path, ∀ x ∈ e.2, x ∈ U
theorem InU.enter {k : Wk α σ} {U : List α} {d : DS α σ} (h : InU k U d) {x : α} (hx : x ∈ U) : InU k U (k.enter x d) := by
  unfold Wk.enter
  split
  · exact h
  · refine ⟨h.closed, fun e he y hy => ?_⟩
    rcases List.mem_cons.1 he with rfl | he
    · exact h.closed x hx y hy
    · exact h.path e he y hy
theorem InU.step {k : Wk α σ} {U : List α} {d : DS α σ} (h : InU k U d) : InU k U (k.step d) := by
  obtain ⟨seen, path, st⟩ := d
  unfold Wk.step
  split
  · exact h
  · rename_i n p e
    simp only at e; subst e
    exact ⟨h.closed, fun e he => h.path e (List.mem_cons_of_mem _ he)⟩
  · rename_i n x l p e
    simp only at e; subst e
    refine InU.enter ⟨h.closed, fun e he y hy => ?_⟩ (h.path _ (List.mem_cons_self ..) x (List.mem_cons_self ..))
    rcases List.mem_cons.1 he with rfl | he
    · exact h.path _ (List.mem_cons_self ..) y (List.mem_cons_of_mem _ hy)
    · exact h.path e (List.mem_cons_of_mem _ he) y hy
theorem left_enter {k : Wk α σ} {U : List α} {d : DS α σ} {x : α} (hx : x ∈ U) : k.left U (k.enter x d) ≤ k.left U d := by
  unfold Wk.enter
  split
  · exact Nat.le_refl _
  · rename_i h
    have := unsM_enter k hx h
    show unsM k U (x :: d.seen) + pathM ((x, k.next x) :: d.path) ≤ unsM k U d.seen + pathM d.path
    unfold pathM
    simp only [List.map_cons, List.sum_cons]
    omega
theorem left_step {k : Wk α σ} {U : List α} {d : DS α σ} (h : InU k U d) (hp : d.path ≠ []) : k.left U (k.step d) < k.left U d := by
  obtain ⟨seen, path, st⟩ := d
  unfold Wk.step
  split
  · rename_i e; exact absurd e hp
  · rename_i n p e
    simp only at e; subst e
    show unsM k U seen + pathM p < unsM k U seen + pathM ((n, []) :: p)
    unfold pathM
    simp only [List.map_cons, List.sum_cons]
    omega
  · rename_i n x l p e
    simp only at e; subst e
    have h1 := left_enter (k := k) (d := ⟨seen, (n, l) :: p, st⟩) (h.path _ (List.mem_cons_self ..) x (List.mem_cons_self ..))
    refine Nat.lt_of_le_of_lt h1 ?_
    show unsM k U seen + pathM ((n, l) :: p) < unsM k U seen + pathM ((n, x :: l) :: p)
    unfold pathM
    simp only [List.map_cons, List.sum_cons, List.length_cons]
    omega
/-- With as many steps as is left the walk has ended. -/
theorem run_ends {k : Wk α σ} {U : List α} : ∀ (n : Nat) (d : DS α σ), InU k U d → k.left U d ≤ n → (k.run n d).path = []
  | 0, d, _, hl => by
    cases hp : d.path with
    | nil => exact hp
    | cons e p =>
      have : 0 < k.left U d := by unfold Wk.left; rw [hp]; unfold pathM; simp only [List.map_cons, List.sum_cons]; omega
      omega
  | n + 1, d, hi, hl => by
    by_cases hp : d.path = []
    · rw [run_ended k _ _ hp]; exact hp
    · exact run_ends n _ hi.step (by have := left_step hi hp; omega)
end
end Go.Proofs.Ytjfhncbfbhkhgaa
