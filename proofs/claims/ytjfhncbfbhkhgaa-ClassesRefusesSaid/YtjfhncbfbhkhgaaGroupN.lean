/- The mathematics of groups, its second half: each group is a class of things that lead to one another. No program; no conditions but those that each theorem names. -/
import Derived.Test.YtjfhncbfbhkhgaaGroupM
namespace Go.Proofs.Ytjfhncbfbhkhgaa
section
variable {α : Type}
/-- A group: things that lead to one another, all of them. -/
structure IsGroup (next : α → List α) (g : List α) : Prop where
  ne : g ≠ []
  nodup : g.Nodup
  both : ∀ x ∈ g, ∀ y ∈ g, Way next x y
  all : ∀ x ∈ g, ∀ y, Way next x y → Way next y x → y ∈ g
theorem closed_back {next below : α → List α} (hb : ∀ x y, x ∈ below y ↔ y ∈ next x) {S : List α} (hS : ∀ y ∈ S, ∀ x ∈ below y, x ∈ S) {x y : α} (h : Way next x y) (hy : y ∈ S) : x ∈ S := by
  induction h with
  | nil _ => exact hy
  | cons _ e _ ih => exact hS _ (ih hy) _ ((hb _ _).2 e)
/-- Which groups are of things that lead to themselves. -/
theorem IsGroup.loop {next : α → List α} {g : List α} (h : IsGroup next g) {x : α} (hx : x ∈ g) : (¬ (g.length = 1 ∧ ∀ y ∈ g, y ∉ next y)) ↔ ∃ y, y ∈ next x ∧ Way next y x := by
  constructor
  · intro hn
    by_cases h1 : g.length = 1
    · obtain ⟨a, rfl⟩ : ∃ a, g = [a] := by
        cases g with
        | nil => cases h1
        | cons a l => cases l with
          | nil => exact ⟨a, rfl⟩
          | cons b l => simp at h1
      have e : x = a := by simpa using hx
      subst e
      have h2 : x ∈ next x := Classical.byContradiction fun h9 => hn ⟨rfl, fun y hy => by
        have e : y = x := by simpa using hy
        subst e; exact h9⟩
      exact ⟨x, h2, .nil trivial⟩
    · obtain ⟨y, hy, hne⟩ : ∃ y ∈ g, y ≠ x := by
        refine Classical.byContradiction fun h9 => h1 ?_
        have h8 : ∀ y ∈ g, y = x := fun y hy => Classical.byContradiction fun h7 => h9 ⟨y, hy, h7⟩
        cases g with
        | nil => cases hx
        | cons a l =>
          cases l with
          | nil => rfl
          | cons b l =>
            have e1 := h8 a (by simp)
            have e2 := h8 b (by simp)
            have := List.nodup_cons.1 h.nodup
            exact absurd (by rw [e1, e2]; simp) this.1
      have h5 := h.both x hx y hy
      cases h5 with
      | nil _ => exact absurd rfl hne
      | cons _ e w => exact ⟨_, e, w.trans (h.both y hy x hx)⟩
  · rintro ⟨y, h1, h2⟩ ⟨h3, h4⟩
    have hyg := h.all x hx y (Way.one h1) h2
    obtain ⟨a, rfl⟩ : ∃ a, g = [a] := by
      cases g with
      | nil => cases h3
      | cons a l => cases l with
        | nil => exact ⟨a, rfl⟩
        | cons b l => simp at h3
    have e1 : x = a := by simpa using hx
    have e2 : y = a := by simpa using hyg
    subst e1; subst e2
    exact h4 _ (by simp) h1
end
section
variable {α σ : Type} [DecidableEq α]
/-- A walk from one thing, to its end. -/
def Walked (k : Wk α σ) (d : DS α σ) (x : α) (d' : DS α σ) : Prop := (∃ n, d' = k.run n (k.enter x d)) ∧ d'.path = []
theorem Walked.unique {k : Wk α σ} {d d1 d2 : DS α σ} {x : α} (h : Walked k d x d1) (g : Walked k d x d2) : d1 = d2 := by
  obtain ⟨⟨n, rfl⟩, h⟩ := h
  obtain ⟨⟨m, rfl⟩, g⟩ := g
  exact run_unique k h g
/-- Walks from some things, one behind the other. -/
inductive Walks (k : Wk α σ) : DS α σ → List α → DS α σ → Prop
  | nil {d : DS α σ} : Walks k d [] d
  | cons {d d1 d2 : DS α σ} {x : α} {l : List α} : Walked k d x d1 → Walks k d1 l d2 → Walks k d (x :: l) d2
theorem Walks.snoc {k : Wk α σ} {d d1 d2 : DS α σ} {l : List α} {x : α} (h : Walks k d l d1) (g : Walked k d1 x d2) : Walks k d (l ++ [x]) d2 := by
  induction h with
  | nil => exact .cons g .nil
  | cons a _ ih => exact .cons a (ih g)
theorem Walks.unique {k : Wk α σ} {d d1 d2 : DS α σ} {l : List α} (h : Walks k d l d1) (g : Walks k d l d2) : d1 = d2 := by
  induction h with
  | nil => cases g; rfl
  | cons a _ ih => cases g with | cons b g => rw [b.unique a] at g; exact ih g
theorem enter_seen (k : Wk α σ) (x : α) (d : DS α σ) : x ∈ (k.enter x d).seen ∧ ∀ y ∈ d.seen, y ∈ (k.enter x d).seen := by
  unfold Wk.enter
  split
  · exact ⟨by assumption, fun _ h => h⟩
  · exact ⟨List.mem_cons_self .., fun _ h => List.mem_cons_of_mem _ h⟩
theorem step_seen (k : Wk α σ) (d : DS α σ) : ∀ y ∈ d.seen, y ∈ (k.step d).seen := by
  unfold Wk.step
  split
  · exact fun _ h => h
  · exact fun _ h => h
  · exact fun y hy => (enter_seen k _ _).2 y hy
theorem run_seen (k : Wk α σ) : ∀ (n : Nat) (d : DS α σ), ∀ y ∈ d.seen, y ∈ (k.run n d).seen
  | 0, _ => fun _ h => h
  | n + 1, d => fun y h => run_seen k n _ y (step_seen k d y h)
theorem Walked.seen {k : Wk α σ} {d d' : DS α σ} {x : α} (h : Walked k d x d') : x ∈ d'.seen ∧ ∀ y ∈ d.seen, y ∈ d'.seen := by
  obtain ⟨⟨n, rfl⟩, _⟩ := h
  exact ⟨run_seen k n _ _ (enter_seen k x d).1, fun y hy => run_seen k n _ _ ((enter_seen k x d).2 y hy)⟩
theorem Walks.seen {k : Wk α σ} {d d' : DS α σ} {l : List α} (h : Walks k d l d') : (∀ x ∈ l, x ∈ d'.seen) ∧ ∀ y ∈ d.seen, y ∈ d'.seen := by
  induction h with
  | nil => exact ⟨fun _ h => (by cases h), fun _ h => h⟩
  | cons a _ ih =>
    refine ⟨fun x hx => ?_, fun y hy => ih.2 y (a.seen.2 y hy)⟩
    rcases List.mem_cons.1 hx with rfl | hx
    · exact ih.2 _ a.seen.1
    · exact ih.1 x hx
end
section
variable {α : Type} [DecidableEq α]
theorem UpI.walked {next : α → List α} {d d' : DS α (List α)} {x : α} (h : UpI next d) (hp : d.path = []) (hw : Walked (leaveK next) d x d') : UpI next d' := by
  obtain ⟨⟨n, rfl⟩, _⟩ := hw
  exact run_inv (leaveK next) (fun d hd => UpI.step hd) n _ (h.enter (fun g hg => by rw [hp] at hg; cases hg))
theorem UpI.walks {next : α → List α} {d d' : DS α (List α)} {l : List α} (hw : Walks (leaveK next) d l d') (h : UpI next d) (hp : d.path = []) : UpI next d' ∧ d'.path = [] := by
  induction hw with
  | nil => exact ⟨h, hp⟩
  | cons a _ ih => exact ih (h.walked hp a) a.2
omit [DecidableEq α] in
theorem UpI.zero (next : α → List α) : UpI next ⟨[], [], []⟩ :=
  ⟨fun x => by simp, List.nodup_nil, List.nodup_nil, List.Pairwise.nil, fun g l h => (by cases h), fun s1 b s2 e => (by
    have e' : ([] : List α) = s1 ++ b :: s2 := e
    simp at e')⟩
/-- What the second walk holds. -/
structure DnI (next below : α → List α) (S0 : List α) (r : α) (d : DS α (List α)) : Prop where
  seen : ∀ x, x ∈ d.seen ↔ x ∈ S0 ∨ x ∈ d.st
  dis : ∀ x ∈ d.st, x ∉ S0
  nodup : d.st.Nodup
  way : ∀ x ∈ d.st, WayP next (fun z => z ∉ S0) x r
  path : ∀ g l, (g, l) ∈ d.path → g ∈ d.st ∧ ∀ c ∈ l, c ∈ below g
  fin : ∀ z ∈ d.st, ∀ c ∈ below z, c ∈ d.seen ∨ ∃ l, (z, l) ∈ d.path ∧ c ∈ l
theorem DnI.enter {next below : α → List α} {S0 : List α} {r : α} {d : DS α (List α)} (h : DnI next below S0 r d) {x : α} (hx : x ∉ S0 → WayP next (fun z => z ∉ S0) x r) : DnI next below S0 r ((comeK below).enter x d) := by
  unfold Wk.enter
  split
  · exact h
  · rename_i hs
    have h0 : x ∉ S0 := fun h9 => hs ((h.seen x).2 (.inl h9))
    have h1 : x ∉ d.st := fun h9 => hs ((h.seen x).2 (.inr h9))
    refine ⟨fun y => ?_, fun y hy => ?_, ?_, fun y hy => ?_, fun g l hg => ?_, fun z hz c hc => ?_⟩
    · show y ∈ x :: d.seen ↔ y ∈ S0 ∨ y ∈ d.st ++ [x]
      rw [List.mem_cons, h.seen y]
      simp only [List.mem_append, List.mem_cons, List.not_mem_nil, or_false]
      constructor
      · rintro (h9 | h9 | h9)
        · exact .inr (.inr h9)
        · exact .inl h9
        · exact .inr (.inl h9)
      · rintro (h9 | h9 | h9)
        · exact .inr (.inl h9)
        · exact .inr (.inr h9)
        · exact .inl h9
    · rcases List.mem_append.1 hy with hy | hy
      · exact h.dis y hy
      · rcases List.mem_cons.1 hy with rfl | hy
        · exact h0
        · cases hy
    · show (d.st ++ [x]).Nodup
      rw [List.nodup_append]
      refine ⟨h.nodup, by simp, fun a ha b hb => ?_⟩
      rcases List.mem_cons.1 hb with rfl | hb
      · exact fun e => h1 (e ▸ ha)
      · cases hb
    · rcases List.mem_append.1 hy with hy | hy
      · exact h.way y hy
      · rcases List.mem_cons.1 hy with rfl | hy
        · exact hx h0
        · cases hy
    · rcases List.mem_cons.1 hg with e | hg
      · injection e with e1 e2; subst e1; subst e2
        exact ⟨List.mem_append_right _ (List.mem_cons_self ..), fun c hc => hc⟩
      · exact ⟨List.mem_append_left _ (h.path g l hg).1, (h.path g l hg).2⟩
    · rcases List.mem_append.1 hz with hz | hz
      · rcases h.fin z hz c hc with h9 | ⟨l, h9, h8⟩
        · exact .inl (List.mem_cons_of_mem _ h9)
        · exact .inr ⟨l, List.mem_cons_of_mem _ h9, h8⟩
      · rcases List.mem_cons.1 hz with rfl | hz
        · exact .inr ⟨_, List.mem_cons_self .., hc⟩
        · cases hz
theorem DnI.step {next below : α → List α} {S0 : List α} {r : α} {d : DS α (List α)} (hb : ∀ x y, x ∈ below y → y ∈ next x) (h : DnI next below S0 r d) : DnI next below S0 r ((comeK below).step d) := by
  obtain ⟨seen, path, st⟩ := d
  unfold Wk.step
  split
  · exact h
  · rename_i n p e
    simp only at e; subst e
    refine ⟨h.seen, h.dis, h.nodup, h.way, fun g l hg => h.path g l (List.mem_cons_of_mem _ hg), fun z hz c hc => ?_⟩
    rcases h.fin z hz c hc with h9 | ⟨l, h9, h8⟩
    · exact .inl h9
    · rcases List.mem_cons.1 h9 with e | h9
      · injection e with _ e2; subst e2; cases h8
      · exact .inr ⟨l, h9, h8⟩
  · rename_i n x l p e
    simp only at e; subst e
    have hn := h.path n (x :: l) (List.mem_cons_self ..)
    have hw : x ∉ S0 → WayP next (fun z => z ∉ S0) x r := fun h0 => .cons h0 (hb x n (hn.2 x (List.mem_cons_self ..))) (h.way n hn.1)
    have hpath : ∀ g l', (g, l') ∈ (n, l) :: p → g ∈ st ∧ ∀ c ∈ l', c ∈ below g := fun g l' hg => by
      rcases List.mem_cons.1 hg with e | hg
      · injection e with e1 e2; subst e1; subst e2
        exact ⟨hn.1, fun c hc => hn.2 c (List.mem_cons_of_mem _ hc)⟩
      · exact h.path g l' (List.mem_cons_of_mem _ hg)
    have hfin : ∀ seen' : List α, x ∈ seen' → (∀ y ∈ seen, y ∈ seen') → ∀ z ∈ st, ∀ c ∈ below z, c ∈ seen' ∨ ∃ l', (z, l') ∈ (n, l) :: p ∧ c ∈ l' := fun seen' h1 h2 z hz c hc => by
      rcases h.fin z hz c hc with h9 | ⟨l', h9, h8⟩
      · exact .inl (h2 c h9)
      · rcases List.mem_cons.1 h9 with e | h9
        · injection e with e1 e2; subst e1; subst e2
          rcases List.mem_cons.1 h8 with rfl | h8
          · exact .inl h1
          · exact .inr ⟨l, List.mem_cons_self .., h8⟩
        · exact .inr ⟨l', List.mem_cons_of_mem _ h9, h8⟩
    by_cases hs : x ∈ seen
    · have he : (comeK below).enter x ⟨seen, (n, l) :: p, st⟩ = ⟨seen, (n, l) :: p, st⟩ := by unfold Wk.enter; rw [if_pos hs]
      rw [he]
      exact ⟨h.seen, h.dis, h.nodup, h.way, hpath, hfin seen hs (fun _ h => h)⟩
    · have h0 : x ∉ S0 := fun h9 => hs ((h.seen x).2 (.inl h9))
      have h1 : x ∉ st := fun h9 => hs ((h.seen x).2 (.inr h9))
      have he : (comeK below).enter x ⟨seen, (n, l) :: p, st⟩ = ⟨x :: seen, (x, below x) :: (n, l) :: p, st ++ [x]⟩ := by unfold Wk.enter; rw [if_neg hs]; rfl
      rw [he]
      refine ⟨fun y => ?_, fun y hy => ?_, ?_, fun y hy => ?_, fun g l' hg => ?_, fun z hz c hc => ?_⟩
      · have h9 := h.seen y
        show y ∈ x :: seen ↔ y ∈ S0 ∨ y ∈ st ++ [x]
        rw [List.mem_cons, h9]
        simp only [List.mem_append, List.mem_cons, List.not_mem_nil, or_false]
        constructor
        · rintro (h9 | h9 | h9)
          · exact .inr (.inr h9)
          · exact .inl h9
          · exact .inr (.inl h9)
        · rintro (h9 | h9 | h9)
          · exact .inr (.inl h9)
          · exact .inr (.inr h9)
          · exact .inl h9
      · rcases List.mem_append.1 hy with hy | hy
        · exact h.dis y hy
        · rcases List.mem_cons.1 hy with rfl | hy
          · exact h0
          · cases hy
      · show (st ++ [x]).Nodup
        rw [List.nodup_append]
        refine ⟨h.nodup, by simp, fun a ha b hb => ?_⟩
        rcases List.mem_cons.1 hb with rfl | hb
        · exact fun e => h1 (e ▸ ha)
        · cases hb
      · rcases List.mem_append.1 hy with hy | hy
        · exact h.way y hy
        · rcases List.mem_cons.1 hy with rfl | hy
          · exact hw h0
          · cases hy
      · rcases List.mem_cons.1 hg with e | hg
        · injection e with e1 e2; subst e1; subst e2
          exact ⟨List.mem_append_right _ (List.mem_cons_self ..), fun c hc => hc⟩
        · exact ⟨List.mem_append_left _ (hpath g l' hg).1, (hpath g l' hg).2⟩
      · rcases List.mem_append.1 hz with hz | hz
        · rcases hfin (x :: seen) (List.mem_cons_self ..) (fun _ h => List.mem_cons_of_mem _ h) z hz c hc with h9 | ⟨l', h9, h8⟩
          · exact .inl h9
          · exact .inr ⟨l', List.mem_cons_of_mem _ h9, h8⟩
        · rcases List.mem_cons.1 hz with rfl | hz
          · exact .inr ⟨_, List.mem_cons_self .., hc⟩
          · cases hz
/-- The second walks, from some things, one behind the other: what was come to, and the groups. -/
inductive Downs (below : α → List α) : List α → List (List α) → List α → List α → List (List α) → Prop
  | nil {S : List α} {G : List (List α)} : Downs below S G [] S G
  | cons {S S2 : List α} {G G2 : List (List α)} {r : α} {l : List α} {d : DS α (List α)} : Walked (comeK below) ⟨S, [], []⟩ r d → Downs below d.seen (if d.st = [] then G else G ++ [d.st]) l S2 G2 → Downs below S G (r :: l) S2 G2
theorem Downs.snoc {below : α → List α} {S S1 : List α} {G G1 : List (List α)} {l : List α} {r : α} {d : DS α (List α)} (h : Downs below S G l S1 G1) (g : Walked (comeK below) ⟨S1, [], []⟩ r d) : Downs below S G (l ++ [r]) d.seen (if d.st = [] then G1 else G1 ++ [d.st]) := by
  induction h with
  | nil => exact .cons g .nil
  | cons a _ ih => exact .cons a (ih g)
theorem downs_groups {next below : α → List α} (hb : ∀ x y, x ∈ below y ↔ y ∈ next x) {L : List α} (hn : L.Nodup) (hE : ∀ s1 b s2, L = s1 ++ b :: s2 → ∀ c ∈ next b, Edge next [] s1 b s2 c)
    {S S2 : List α} {G G2 : List (List α)} {l : List α} (h : Downs below S G l S2 G2) : ∀ s t, L = s ++ t → l = s.reverse → (∀ x ∈ t, x ∈ S) → (∀ y ∈ S, ∀ x ∈ below y, x ∈ S) → (∀ x ∈ S, x ∈ L) → (∀ x y, x ∈ below y → x ∈ L) →
      (∀ g ∈ G, IsGroup next g ∧ ∀ x ∈ g, x ∈ S) → (∀ x ∈ S, ∃ g ∈ G, x ∈ g) →
      (∀ g ∈ G2, IsGroup next g ∧ ∀ x ∈ g, x ∈ L) ∧ ∀ x ∈ L, ∃ g ∈ G2, x ∈ g := by
  induction h with
  | nil =>
    intro s t hL hl ht _ hSL _ hG hcov
    have : s = [] := by simpa using hl.symm
    subst this
    exact ⟨fun g hg => ⟨(hG g hg).1, fun x hx => hSL x ((hG g hg).2 x hx)⟩, fun x hx => hcov x (ht x (by rw [hL] at hx; exact hx))⟩
  | @cons S S2 G G2 r l d hw _ ih =>
    intro s t hL hl ht hS hSL hBL hG hcov
    obtain ⟨s', rfl⟩ : ∃ s', s = s' ++ [r] := ⟨l.reverse, by rw [← List.reverse_reverse s, ← hl]; simp⟩
    have hl' : l = s'.reverse := by simpa using hl
    have hrL : r ∈ L := by rw [hL]; simp
    have hd : DnI next below S r d := by
      obtain ⟨⟨n, rfl⟩, _⟩ := hw
      refine run_inv (comeK below) (fun d hd => DnI.step (fun x y => (hb x y).1) hd) n _ (DnI.enter ?_ (fun h0 => .nil h0))
      exact ⟨fun x => by simp, fun x hx => (by cases hx), List.nodup_nil, fun x hx => (by cases hx), fun g l hg => (by cases hg), fun z hz => (by cases hz)⟩
    have hp := hw.2
    have hcl : ∀ y ∈ d.seen, ∀ x ∈ below y, x ∈ d.seen := fun y hy x hx => by
      rcases (hd.seen y).1 hy with h9 | h9
      · exact (hd.seen x).2 (.inl (hS y h9 x hx))
      · rcases hd.fin y h9 x hx with h8 | ⟨l', h8, _⟩
        · exact h8
        · rw [hp] at h8; cases h8
    have hstL : ∀ x ∈ d.st, x ∈ L := fun x hx => by
      have h9 := hd.way x hx
      cases h9 with
      | nil _ => exact hrL
      | cons _ e _ => exact hBL _ _ ((hb _ _).2 e)
    have hseenL : ∀ x ∈ d.seen, x ∈ L := fun x hx => ((hd.seen x).1 hx).elim (hSL x) (hstL x)
    have hg : d.st ≠ [] → IsGroup next d.st := fun hne => by
      have hback : ∀ x ∈ d.st, Way next r x := fun x hx => by
        have hin : ∀ z, (z ∈ L ∧ z ∉ S) → z ∈ s' ++ [r] := fun z hz => by
          have h9 := hz.1
          rw [hL] at h9
          exact (List.mem_append.1 h9).resolve_right (fun h8 => hz.2 (ht z h8))
        have hw9 : ∀ x, WayP next (fun z => z ∉ S) x r → WayP next (fun z => z ∈ L ∧ z ∉ S) x r := fun x h9 => by
          have hrr : ∀ u v, WayP next (fun z => z ∉ S) u v → v = r → WayP next (fun z => z ∈ L ∧ z ∉ S) u v := fun u v h8 => by
            induction h8 with
            | nil p => exact fun e => .nil ⟨by rw [e]; exact hrL, p⟩
            | cons p e _ ih => exact fun e9 => .cons ⟨hBL _ _ ((hb _ _).2 e), p⟩ e (ih e9)
          exact hrr x r h9 rfl
        obtain ⟨u, v, _, hxv, hall⟩ := way_back (s := s') (t := t) (by rw [hL]; simp) hn hE hin (hw9 x (hd.way x hx)) rfl
        exact hall x hxv
      refine ⟨hne, hd.nodup, fun x hx y hy => ((hd.way x hx).imp (fun _ _ => trivial)).trans (hback y hy), fun x hx y hxy hyx => ?_⟩
      have hys : y ∈ d.seen := closed_back hb hcl hyx ((hd.seen x).2 (.inr hx))
      refine ((hd.seen y).1 hys).resolve_left (fun h9 => hd.dis x hx (closed_back hb hS hxy h9))
    refine ih s' (r :: t) (by rw [hL]; simp) hl' (fun x hx => ?_) hcl hseenL hBL (fun g hg9 => ?_) (fun x hx => ?_)
    · rcases List.mem_cons.1 hx with rfl | hx
      · exact hw.seen.1
      · exact hw.seen.2 x (ht x hx)
    · by_cases he : d.st = []
      · rw [if_pos he] at hg9
        exact ⟨(hG g hg9).1, fun x hx => hw.seen.2 x ((hG g hg9).2 x hx)⟩
      · rw [if_neg he] at hg9
        rcases List.mem_append.1 hg9 with h8 | h8
        · exact ⟨(hG g h8).1, fun x hx => hw.seen.2 x ((hG g h8).2 x hx)⟩
        · rcases List.mem_cons.1 h8 with rfl | h8
          · exact ⟨hg he, fun x hx => (hd.seen x).2 (.inr hx)⟩
          · cases h8
    · rcases (hd.seen x).1 hx with h9 | h9
      · obtain ⟨g, h8, h7⟩ := hcov x h9
        by_cases he : d.st = []
        · rw [if_pos he]; exact ⟨g, h8, h7⟩
        · rw [if_neg he]; exact ⟨g, List.mem_append_left _ h8, h7⟩
      · have he : d.st ≠ [] := fun e => by rw [e] at h9; cases h9
        rw [if_neg he]
        exact ⟨d.st, List.mem_append_right _ (List.mem_cons_self ..), h9⟩
/-- All walks up from some things, then all walks down: the groups of all that the first came to. -/
theorem groups_ok {next below : α → List α} {names : List α} (hb : ∀ x y, x ∈ below y ↔ y ∈ next x) (hbn : ∀ x y, x ∈ below y → x ∈ names) {d : DS α (List α)} (hu : Walks (leaveK next) ⟨[], [], []⟩ names d) {S : List α} {G : List (List α)} (hd : Downs below [] [] d.st.reverse S G) :
    (∀ g ∈ G, IsGroup next g) ∧ (∀ x ∈ names, ∃ g ∈ G, x ∈ g) := by
  obtain ⟨hI, hp⟩ := UpI.walks hu (UpI.zero next) rfl
  have hseen : ∀ x, x ∈ d.seen ↔ x ∈ d.st := fun x => by
    rw [hI.seen x, hp]; simp
  have hnd : d.st.Nodup := (List.nodup_append.1 hI.stn).1
  have hE := hI.edge
  rw [hp] at hE
  obtain ⟨h1, h2⟩ := downs_groups hb hnd hE hd d.st [] (by simp) rfl (fun x hx => by cases hx) (fun y hy => by cases hy) (fun y hy => by cases hy) (fun x y hxy => (hseen x).1 (hu.seen.1 x (hbn x y hxy))) (fun g hg => by cases hg) (fun x hx => by cases hx)
  exact ⟨fun g hg => (h1 g hg).1, fun x hx => h2 x ((hseen x).1 (hu.seen.1 x hx))⟩
end
end Go.Proofs.Ytjfhncbfbhkhgaa
