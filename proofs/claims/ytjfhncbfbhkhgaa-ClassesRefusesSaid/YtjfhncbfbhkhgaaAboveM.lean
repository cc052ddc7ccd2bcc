/- The mathematics of what is above a class: the walk tells what the recursion tells. No program; no conditions but those that each theorem names. -/
import Derived.Test.YtjfhncbfbhkhgaaWalkM
namespace Go.Proofs.Ytjfhncbfbhkhgaa
section
variable {α : Type} [DecidableEq α]
/-- The walk that tells each class that it comes to. -/
def tellK (next : α → List α) (cls : α → Bool) : Wk α (List α) := ⟨next, fun st n => if cls n then st ++ [n] else st, fun st _ => st⟩
/-- The document's Above, behind what is told already; so many more may be within. -/
def aboveF (next : α → List α) (cls : α → Bool) : Nat → List α → α → List α
  | 0, told, _ => told
  | n + 1, told, x => if cls x = true ∧ x ∉ told then (next x).foldl (fun t y => aboveF next cls n t y) (told ++ [x]) else told
theorem aboveF_skip {next : α → List α} {cls : α → Bool} {told : List α} {x : α} (h : ¬ (cls x = true ∧ x ∉ told)) : ∀ n, aboveF next cls n told x = told
  | 0 => rfl
  | n + 1 => by unfold aboveF; rw [if_neg h]
/-- How many classes are not told. -/
def cntC (C : List α) (st : List α) : Nat := (C.filter (fun c => c ∉ st)).length
theorem cntC_le {C st st' : List α} (h : ∀ x ∈ st, x ∈ st') : cntC C st' ≤ cntC C st := by
  unfold cntC
  induction C with
  | nil => simp
  | cons c C ih =>
    by_cases h1 : c ∈ st
    · rw [List.filter_cons_of_neg (by simpa using h c h1), List.filter_cons_of_neg (by simpa using h1)]; exact ih
    · rw [List.filter_cons_of_pos (p := fun c => decide (c ∉ st)) (by simpa using h1)]
      by_cases h2 : c ∈ st'
      · rw [List.filter_cons_of_neg (by simpa using h2)]; simp only [List.length_cons]; omega
      · rw [List.filter_cons_of_pos (by simpa using h2)]; simp only [List.length_cons]; omega
theorem cntC_lt {C st : List α} {x : α} (hx : x ∈ C) (h : x ∉ st) : cntC C (st ++ [x]) < cntC C st := by
  unfold cntC
  induction C with
  | nil => cases hx
  | cons c C ih =>
    have hle := cntC_le (C := C) (st := st) (st' := st ++ [x]) (fun y hy => List.mem_append_left _ hy)
    unfold cntC at hle
    by_cases h1 : c = x
    · subst h1
      rw [List.filter_cons_of_neg (by simp), List.filter_cons_of_pos (by simpa using h)]
      simp only [List.length_cons]; omega
    · have hx' : x ∈ C := (List.mem_cons.1 hx).resolve_left (fun e => h1 e.symm)
      have := ih hx'
      by_cases h2 : c ∈ st
      · rw [List.filter_cons_of_neg (by simp [h2]), List.filter_cons_of_neg (by simp [h2])]; exact this
      · rw [List.filter_cons_of_pos (by simp [h2, h1]), List.filter_cons_of_pos (by simp [h2])]; simp only [List.length_cons]; omega
theorem unsM_mono {σ : Type} (k : Wk α σ) {U a b : List α} (h : ∀ y ∈ a, y ∈ b) : unsM k U b ≤ unsM k U a := by
  unfold unsM
  induction U with
  | nil => simp
  | cons u U ih =>
    simp only [List.map_cons, List.sum_cons]
    by_cases hv : u ∈ a
    · rw [if_pos hv, if_pos (h u hv)]; omega
    · rw [if_neg hv]; split <;> omega
/-- What the walker keeps is the classes that were come to. -/
structure Tells (next : α → List α) (cls : α → Bool) (C : List α) (d : DS α (List α)) : Prop where
  st : ∀ x, x ∈ d.st ↔ x ∈ d.seen ∧ cls x = true
  none : ∀ x, cls x = false → next x = []
  cls : ∀ x, cls x = true → x ∈ C
theorem tells_walk {next : α → List α} {cls : α → Bool} {C U : List α} : ∀ (N : Nat) (d : DS α (List α)) (x : α), Tells next cls C d → unsM (tellK next cls) U d.seen ≤ N → (∀ u ∈ U, ∀ y ∈ next u, y ∈ U) → x ∈ U →
    ∃ n d', (tellK next cls).run n ((tellK next cls).enter x d) = d' ∧ d'.path = d.path ∧ Tells next cls C d' ∧ (∀ y ∈ d.seen, y ∈ d'.seen) ∧ x ∈ d'.seen ∧ ∀ g, cntC C d.st < g → d'.st = aboveF next cls g d.st x
  | N, d, x, hT, hN, hU, hx => by
    by_cases hs : x ∈ d.seen
    · refine ⟨0, d, ?_, rfl, hT, fun _ h => h, hs, fun g _ => ?_⟩
      · show (tellK next cls).enter x d = d
        unfold Wk.enter; rw [if_pos hs]
      · exact (aboveF_skip (fun h => h.2 ((hT.st x).2 ⟨hs, h.1⟩)) g).symm
    · have hm := unsM_enter (tellK next cls) hx hs
      have he : (tellK next cls).enter x d = ⟨x :: d.seen, (x, next x) :: d.path, if cls x then d.st ++ [x] else d.st⟩ := by unfold Wk.enter; rw [if_neg hs]; rfl
      have hT1 : Tells next cls C ⟨x :: d.seen, (x, next x) :: d.path, if cls x then d.st ++ [x] else d.st⟩ := by
        refine ⟨fun y => ?_, hT.none, hT.cls⟩
        show y ∈ (if cls x then d.st ++ [x] else d.st) ↔ y ∈ x :: d.seen ∧ cls y = true
        have h9 := hT.st y
        cases hc : cls x with
        | true =>
          simp only [if_true, List.mem_append, List.mem_cons, List.not_mem_nil, or_false]
          constructor
          · rintro (h | rfl)
            · exact ⟨.inr (h9.1 h).1, (h9.1 h).2⟩
            · exact ⟨.inl rfl, hc⟩
          · rintro ⟨rfl | h, h2⟩
            · exact .inr rfl
            · exact .inl (h9.2 ⟨h, h2⟩)
        | false =>
          simp only [Bool.false_eq_true, if_false, List.mem_cons]
          constructor
          · exact fun h => ⟨.inr (h9.1 h).1, (h9.1 h).2⟩
          · rintro ⟨rfl | h, h2⟩
            · rw [hc] at h2; cases h2
            · exact h9.2 ⟨h, h2⟩
      -- all that it leads to
      have hlist : ∀ (l : List α) (d1 : DS α (List α)), (∀ y ∈ l, y ∈ U) → Tells next cls C d1 → d1.path = (x, l) :: d.path → unsM (tellK next cls) U d1.seen < N →
          ∃ n d', (tellK next cls).run n d1 = d' ∧ d'.path = (x, []) :: d.path ∧ Tells next cls C d' ∧ (∀ y ∈ d1.seen, y ∈ d'.seen) ∧ ∀ g, cntC C d1.st < g → d'.st = l.foldl (fun t y => aboveF next cls g t y) d1.st := by
        intro l
        induction l with
        | nil => exact fun d1 _ h1 h2 _ => ⟨0, d1, rfl, h2, h1, fun _ h => h, fun _ _ => rfl⟩
        | cons y l ih =>
          intro d1 hl h1 h2 h3
          have hst : (tellK next cls).step d1 = (tellK next cls).enter y ⟨d1.seen, (x, l) :: d.path, d1.st⟩ := by unfold Wk.step; rw [h2]
          obtain ⟨n1, d2, r1, p1, t1, s1, _, g1⟩ := tells_walk (N - 1) ⟨d1.seen, (x, l) :: d.path, d1.st⟩ y ⟨h1.st, h1.none, h1.cls⟩ (by show unsM (tellK next cls) U d1.seen ≤ _; omega) hU (hl y (List.mem_cons_self ..))
          have hle : unsM (tellK next cls) U d2.seen ≤ unsM (tellK next cls) U d1.seen := unsM_mono (tellK next cls) (U := U) s1
          obtain ⟨n2, d3, r2, p2, t2, s2, g2⟩ := ih d2 (fun z hz => hl z (List.mem_cons_of_mem _ hz)) t1 p1 (by omega)
          refine ⟨(1 + n1) + n2, d3, ?_, p2, t2, fun z hz => s2 z (s1 z hz), fun g hg => ?_⟩
          · rw [run_add, run_add]
            show (tellK next cls).run n2 ((tellK next cls).run n1 ((tellK next cls).step d1)) = d3
            rw [hst, r1, r2]
          · rw [List.foldl_cons, ← g1 g hg]
            refine g2 g (Nat.lt_of_le_of_lt (cntC_le (fun z hz => ?_)) hg)
            exact (t1.st z).2 ⟨s1 z ((h1.st z).1 hz).1, ((h1.st z).1 hz).2⟩
      obtain ⟨n1, d1, r1, p1, t1, s1, g1⟩ := hlist (next x) _ (fun y hy => hU x hx y hy) hT1 rfl (by show unsM (tellK next cls) U (x :: d.seen) < N; omega)
      refine ⟨n1 + 1, ⟨d1.seen, d.path, d1.st⟩, ?_, rfl, ⟨t1.st, t1.none, t1.cls⟩, fun y hy => s1 y (List.mem_cons_of_mem _ hy), s1 x (List.mem_cons_self ..), fun g hg => ?_⟩
      · rw [run_add, he, r1]
        show (tellK next cls).step d1 = _
        unfold Wk.step; rw [p1]; rfl
      · cases hc : cls x with
        | true =>
          have hnt : x ∉ d.st := fun h => hs ((hT.st x).1 h).1
          have hlt := cntC_lt (hT.cls x hc) hnt
          obtain ⟨g', rfl⟩ : ∃ g', g = g' + 1 := ⟨g - 1, by omega⟩
          unfold aboveF
          rw [if_pos ⟨hc, hnt⟩]
          have h9 := g1 g' (by
            show cntC C (if cls x then d.st ++ [x] else d.st) < g'
            rw [hc]; simp only [if_true]; omega)
          rw [hc] at h9
          exact h9
        | false =>
          rw [aboveF_skip (fun h => by rw [hc] at h; cases h.1)]
          have h9 := g1 g (by
            show cntC C (if cls x then d.st ++ [x] else d.st) < g
            rw [hc]; exact hg)
          rw [hT.none x hc, hc] at h9
          exact h9
termination_by N => N
decreasing_by
  have : unsM (tellK next cls) U (x :: d.seen) + 2 + ((tellK next cls).next x).length ≤ N := Nat.le_trans hm hN
  omega
end
end Go.Proofs.Ytjfhncbfbhkhgaa
