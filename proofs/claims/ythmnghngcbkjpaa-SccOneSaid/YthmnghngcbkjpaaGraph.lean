/- Who leads to whom, and what a search (come, least, open, path, root) knows. No program, no conditions. -/
namespace Go.Proofs.Ythmnghngcbkjpaa

/-- One thing uses another one. -/
def Edge (n : Nat) (L : Nat → List Int) (i k : Nat) : Prop := i < n ∧ k < n ∧ (k : Int) ∈ L i
/-- One thing leads to another one. -/
inductive Leads (n : Nat) (L : Nat → List Int) : Nat → Nat → Prop
  | refl (i : Nat) : Leads n L i i
  | step {i k m : Nat} : Leads n L i k → Edge n L k m → Leads n L i m
theorem Leads.trans {n : Nat} {L : Nat → List Int} {i k m : Nat} (h : Leads n L i k) (h' : Leads n L k m) : Leads n L i m := by
  induction h' with
  | refl => exact h
  | step _ e ih => exact .step ih e
theorem Leads.edge {n : Nat} {L : Nat → List Int} {i k : Nat} (h : Edge n L i k) : Leads n L i k := .step (.refl _) h
def Mut (n : Nat) (L : Nat → List Int) (i k : Nat) : Prop := Leads n L i k ∧ Leads n L k i
theorem Mut.symm {n : Nat} {L : Nat → List Int} {i k : Nat} (h : Mut n L i k) : Mut n L k i := ⟨h.2, h.1⟩
theorem Mut.trans {n : Nat} {L : Nat → List Int} {i k m : Nat} (h : Mut n L i k) (h' : Mut n L k m) : Mut n L i m := ⟨h.1.trans h'.1, h'.2.trans h.2⟩
/-- What leads out of a set that nothing leaves stays in it. -/
theorem Leads.inside {n : Nat} {L : Nat → List Int} {P : Nat → Prop} (hP : ∀ i k, P i → Edge n L i k → P k) {i k : Nat} (h : Leads n L i k) (hi : P i) : P k := by
  induction h with
  | refl => exact hi
  | step _ e ih => exact hP _ _ ih e

def upd {α : Type} (f : Nat → α) (i : Nat) (v : α) : Nat → α := fun j => if j = i then v else f j
theorem upd_same {α : Type} (f : Nat → α) (i : Nat) (v : α) : upd f i v i = v := if_pos rfl
theorem upd_other {α : Type} (f : Nat → α) {i j : Nat} (h : j ≠ i) (v : α) : upd f i v j = f j := if_neg h

/-- What is known in a search. -/
structure S where
  count : Nat
  come : Nat → Nat
  least : Nat → Nat
  root : Nat → Nat
  opens : List Nat
  path : List (Nat × List Int)
def top : Nat := 9223372036854775807
def S.enter (s : S) (L : Nat → List Int) (x : Nat) : S :=
  { s with count := s.count + 1, come := upd s.come x (s.count + 1), least := upd s.least x (s.count + 1), opens := s.opens ++ [x], path := s.path ++ [(x, L x)] }
def S.leads (s : S) (x y : Nat) : S := { s with least := upd s.least x (min (s.least x) (s.least y)) }
/-- All of 'l' are in a group, that of 'x'. -/
def S.shut (s : S) (pre l : List Nat) (x : Nat) : S :=
  { s with opens := pre, least := fun j => if j ∈ l then top else s.least j, root := fun j => if j ∈ l then x else s.root j }

def S.onPath (s : S) (x : Nat) : Prop := ∃ l, (x, l) ∈ s.path
def S.shutP (s : S) (n : Nat) (x : Nat) : Prop := x < n ∧ s.come x ≠ 0 ∧ x ∉ s.opens
/-- The edges of a thing that were looked at. -/
def S.seen (s : S) (L : Nat → List Int) (x : Nat) (z : Int) : Prop := (∃ d l, (x, l) ∈ s.path ∧ L x = d ++ l ∧ z ∈ d) ∨ (¬ s.onPath x ∧ z ∈ L x)

structure Inv (n : Nat) (L : Nat → List Int) (s : S) : Prop where
  small : ∀ x, s.come x ≤ s.count
  zero : ∀ x, n ≤ x → s.come x = 0
  many : s.count + ((List.range n).filter (fun x => s.come x == 0)).length = n
  openlt : ∀ x ∈ s.opens, x < n ∧ s.come x ≠ 0
  sorted : s.opens.Pairwise (fun a b => s.come a < s.come b)
  pathopen : ∀ x l, (x, l) ∈ s.path → x ∈ s.opens
  pathsorted : s.path.Pairwise (fun a b => s.come a.1 < s.come b.1)
  parts : ∀ x l, (x, l) ∈ s.path → ∃ d, L x = d ++ l
  done : ∀ x z, x < n → s.come x ≠ 0 → s.seen L x z → 0 ≤ z → z < n → s.come z.toNat ≠ 0
  shuts : ∀ x k, s.shutP n x → Edge n L x k → s.shutP n k
  up : ∀ x y, x ∈ s.opens → y ∈ s.opens → s.come x ≤ s.come y → Leads n L x y
  down : ∀ x ∈ s.opens, ∃ p, s.onPath p ∧ s.come p ≤ s.come x ∧ Leads n L x p
  low : ∀ x ∈ s.opens, s.least x ≤ s.come x ∧ ∃ y ∈ s.opens, s.least x = s.come y ∧ Leads n L x y
  lows : ∀ x z, x ∈ s.opens → s.seen L x z → 0 ≤ z → z < n → z.toNat ∈ s.opens → s.least x ≤ s.come z.toNat
  seg : ∀ x ∈ s.opens, ¬ s.onPath x → ∃ p, s.onPath p ∧ s.come p ≤ s.come x ∧ s.least p ≤ s.least x ∧ ∀ q, s.onPath q → s.come q ≤ s.come x → s.come q ≤ s.come p
  tops : ∀ x, s.shutP n x → s.least x = top
  group : ∀ x, s.shutP n x → Mut n L x (s.root x) ∧ s.root x < n ∧ ∀ y, y < n → Mut n L x y → s.shutP n y ∧ s.root y = s.root x

def S.start : S := ⟨0, fun _ => 0, fun _ => 0, fun _ => 0, [], []⟩
theorem Inv.start (n : Nat) (L : Nat → List Int) : Inv n L S.start := by
  refine ⟨fun _ => Nat.le_refl _, fun _ _ => rfl, ?_, ?_, .nil, ?_, .nil, ?_, ?_, ?_, ?_, ?_, ?_, ?_, ?_, ?_, ?_⟩
  · show 0 + ((List.range n).filter (fun _ => true)).length = n
    rw [List.filter_eq_self.2 (fun _ _ => rfl), List.length_range, Nat.zero_add]
  all_goals (intros; first | simp_all [S.start, S.shutP] | (simp only [S.start, S.shutP] at *; simp_all))

/-- No path: nothing is open. -/
theorem Inv.empty {n : Nat} {L : Nat → List Int} {s : S} (h : Inv n L s) (hp : s.path = []) : s.opens = [] := by
  cases ho : s.opens with
  | nil => rfl
  | cons a r =>
    obtain ⟨p, ⟨l, hl⟩, _⟩ := h.down a (by rw [ho]; exact List.mem_cons_self)
    rw [hp] at hl; cases hl
theorem Inv.inj {n : Nat} {L : Nat → List Int} {s : S} (h : Inv n L s) {x y : Nat} (hx : x ∈ s.opens) (hy : y ∈ s.opens) (e : s.come x = s.come y) : x = y := by
  obtain ⟨i, hi, rfl⟩ := List.getElem_of_mem hx
  obtain ⟨j, hj, rfl⟩ := List.getElem_of_mem hy
  have hs := List.pairwise_iff_getElem.1 h.sorted
  rcases Nat.lt_trichotomy i j with h1 | h1 | h1
  · have := hs i j hi hj h1; omega
  · subst h1; rfl
  · have := hs j i hj hi h1; omega
theorem Inv.last {n : Nat} {L : Nat → List Int} {s : S} (h : Inv n L s) {r : List (Nat × List Int)} {t : Nat} {l : List Int} (hp : s.path = r ++ [(t, l)]) {q : Nat} (hq : s.onPath q) : s.come q ≤ s.come t := by
  obtain ⟨m, hm⟩ := hq
  rw [hp] at hm
  rcases List.mem_append.1 hm with hm | hm
  · have := h.pathsorted
    rw [hp, List.pairwise_append] at this
    have := this.2.2 _ hm _ (List.mem_singleton.2 rfl)
    simp only at this; omega
  · simp only [List.mem_singleton, Prod.mk.injEq] at hm
    rw [hm.1]; exact Nat.le_refl _
/-- On the path each thing stands once. -/
theorem Inv.once {n : Nat} {L : Nat → List Int} {s : S} (h : Inv n L s) {r : List (Nat × List Int)} {t : Nat} {l : List Int} (hp : s.path = r ++ [(t, l)]) {m : List Int} : (t, m) ∉ r := by
  intro hm
  have := h.pathsorted
  rw [hp, List.pairwise_append] at this
  have := this.2.2 _ hm _ (List.mem_singleton.2 rfl)
  simp only at this; omega
theorem S.onTop {s : S} {r : List (Nat × List Int)} {t : Nat} {l : List Int} (hp : s.path = r ++ [(t, l)]) : s.onPath t := ⟨l, by rw [hp]; simp⟩
/-- All that is open leads to the path's last thing. -/
theorem Inv.toTop {n : Nat} {L : Nat → List Int} {s : S} (h : Inv n L s) {r : List (Nat × List Int)} {t : Nat} {l : List Int} (hp : s.path = r ++ [(t, l)]) {x : Nat} (hx : x ∈ s.opens) : Leads n L x t := by
  obtain ⟨p, hpp, _, hl⟩ := h.down x hx
  have h1 := h.last hp hpp
  obtain ⟨m, hm⟩ := hpp
  exact hl.trans (h.up p t (h.pathopen _ _ hm) (h.pathopen t l (by rw [hp]; simp)) h1)
theorem Inv.countle {n : Nat} {L : Nat → List Int} {s : S} (h : Inv n L s) : s.count ≤ n := by have := h.many; omega
theorem filter_upd (n : Nat) (f : Nat → Nat) (x v : Nat) (hx : x < n) (h0 : f x = 0) (hv : v ≠ 0) : ((List.range n).filter (fun y => upd f x v y == 0)).length + 1 = ((List.range n).filter (fun y => f y == 0)).length := by
  induction n with
  | zero => omega
  | succ n ih =>
    rw [List.range_succ, List.filter_append, List.filter_append, List.length_append, List.length_append]
    by_cases e : x = n
    · subst e
      have hs : (List.range x).filter (fun y => upd f x v y == 0) = (List.range x).filter (fun y => f y == 0) := by
        apply List.filter_congr
        intro y hy
        rw [upd_other f (by have := List.mem_range.1 hy; omega)]
      rw [hs]
      simp [upd_same, h0, hv]
    · have := ih (by omega)
      have hn : upd f x v n = f n := upd_other f (fun e' => e e'.symm) v
      by_cases h9 : f n = 0
      · simp [hn, h9]; omega
      · simp [hn, h9]; omega
/-- A thing is come to that was not come to yet. -/
theorem Inv.enter {n : Nat} {L : Nat → List Int} {s : S} (h : Inv n L s) {x : Nat} (hx : x < n) (h0 : s.come x = 0) (hfrom : s.path = [] ∨ ∃ r t l, s.path = r ++ [(t, l)] ∧ Edge n L t x) : Inv n L (s.enter L x) := by
  have hnox : x ∉ s.opens := fun e => (h.openlt x e).2 h0
  have hne : ∀ y, s.come y ≠ 0 → y ≠ x := fun y hy e => hy (by rw [e]; exact h0)
  have hcome : ∀ y, s.come y ≠ 0 → (s.enter L x).come y = s.come y := fun y hy => upd_other _ (hne y hy) _
  have hopen : ∀ y ∈ s.opens, (s.enter L x).come y = s.come y ∧ (s.enter L x).least y = s.least y := fun y hy => ⟨upd_other _ (hne y (h.openlt y hy).2) _, upd_other _ (hne y (h.openlt y hy).2) _⟩
  have hmem : ∀ y, y ∈ (s.enter L x).opens ↔ (y ∈ s.opens ∨ y = x) := fun y => by simp [S.enter]
  have hcx : (s.enter L x).come x = s.count + 1 := upd_same _ _ _
  have hlx : (s.enter L x).least x = s.count + 1 := upd_same _ _ _
  have honp : ∀ y, (s.enter L x).onPath y ↔ (s.onPath y ∨ y = x) := by
    intro y
    constructor
    · rintro ⟨l, hl⟩
      simp only [S.enter, List.mem_append, List.mem_singleton, Prod.mk.injEq] at hl
      rcases hl with hl | hl
      · exact .inl ⟨l, hl⟩
      · exact .inr hl.1
    · rintro (⟨l, hl⟩ | rfl)
      · exact ⟨l, List.mem_append_left _ hl⟩
      · exact ⟨L y, List.mem_append_right _ (List.mem_singleton.2 rfl)⟩
  have hxp : ¬ s.onPath x := fun ⟨l, hl⟩ => hnox (h.pathopen _ _ hl)
  have hpne : ∀ y, s.onPath y → y ∈ s.opens := fun y ⟨l, hl⟩ => h.pathopen _ _ hl
  have hseen : ∀ y z, (s.enter L x).seen L y z → (y = x ∧ False) ∨ (y ≠ x ∧ s.seen L y z) := by
    intro y z hs
    by_cases hyx : y = x
    · subst hyx
      rcases hs with ⟨d, l, hm, hL, hz⟩ | ⟨hn, _⟩
      · simp only [S.enter, List.mem_append, List.mem_singleton, Prod.mk.injEq] at hm
        rcases hm with hm | ⟨_, hm⟩
        · exact absurd ⟨l, hm⟩ hxp
        · rw [← hm] at hL
          have : d = [] := by
            have := congrArg List.length hL
            simp at this; exact this
          subst this; cases hz
      · exact absurd ((honp y).2 (.inr rfl)) hn
    · refine .inr ⟨hyx, ?_⟩
      rcases hs with ⟨d, l, hm, hL, hz⟩ | ⟨hn, hz⟩
      · simp only [S.enter, List.mem_append, List.mem_singleton, Prod.mk.injEq] at hm
        rcases hm with hm | ⟨hm, _⟩
        · exact .inl ⟨d, l, hm, hL, hz⟩
        · exact absurd hm hyx
      · exact .inr ⟨fun e => hn ((honp y).2 (.inl e)), hz⟩
  have hshut : ∀ y, (s.enter L x).shutP n y ↔ s.shutP n y := by
    intro y
    constructor
    · rintro ⟨h1, h2, h3⟩
      have hyx : y ≠ x := fun e => h3 ((hmem y).2 (.inr e))
      have : (s.enter L x).come y = s.come y := upd_other _ hyx _
      exact ⟨h1, by rw [← this]; exact h2, fun e => h3 ((hmem y).2 (.inl e))⟩
    · rintro ⟨h1, h2, h3⟩
      refine ⟨h1, by rw [hcome y h2]; exact h2, fun e => ?_⟩
      rcases (hmem y).1 e with e | e
      · exact h3 e
      · exact hne y h2 e
  have hupx : ∀ y ∈ s.opens, Leads n L y x := by
    intro y hy
    rcases hfrom with hp | ⟨r, t, l, hp, he⟩
    · rw [h.empty hp] at hy; cases hy
    · exact (h.toTop hp hy).step he
  have hnz : ∀ y, s.come y ≠ 0 → (s.enter L x).come y ≠ 0 := fun y hy => by rw [hcome y hy]; exact hy
  refine ⟨fun y => ?_, fun y hy => ?_, ?_, fun y hy => ?_, ?_, ?_, ?_, ?_, ?_, ?_, ?_, ?_, ?_, ?_, ?_, ?_, ?_⟩
  · by_cases e : y = x
    · subst e; rw [hcx]; exact Nat.le_refl _
    · have : (s.enter L x).come y = s.come y := upd_other _ e _
      rw [this]; exact Nat.le_succ_of_le (h.small y)
  · have : (s.enter L x).come y = s.come y := upd_other _ (by omega) _
    rw [this]; exact h.zero y hy
  · have := filter_upd n s.come x (s.count + 1) hx h0 (by omega)
    have hm := h.many
    show s.count + 1 + ((List.range n).filter (fun y => upd s.come x (s.count + 1) y == 0)).length = n
    omega
  · rcases (hmem y).1 hy with hy | rfl
    · have := h.openlt y hy
      exact ⟨this.1, hnz y this.2⟩
    · exact ⟨hx, by rw [hcx]; omega⟩
  · show (s.opens ++ [x]).Pairwise _
    rw [List.pairwise_append]
    refine ⟨?_, .cons (by simp) .nil, fun a ha b hb => ?_⟩
    · refine List.Pairwise.imp_of_mem (fun {a b} ha hb hab => ?_) h.sorted
      rw [(hopen a ha).1, (hopen b hb).1]; exact hab
    · rw [List.mem_singleton.1 hb, hcx, (hopen a ha).1]
      have := h.small a; omega
  · intro y l hl
    simp only [S.enter, List.mem_append, List.mem_singleton, Prod.mk.injEq] at hl
    rcases hl with hl | hl
    · exact (hmem y).2 (.inl (h.pathopen _ _ hl))
    · exact (hmem y).2 (.inr hl.1)
  · show (s.path ++ [(x, L x)]).Pairwise _
    rw [List.pairwise_append]
    refine ⟨?_, .cons (by simp) .nil, fun a ha b hb => ?_⟩
    · refine List.Pairwise.imp_of_mem (fun {a b} ha hb hab => ?_) h.pathsorted
      rw [(hopen a.1 (h.pathopen a.1 a.2 ha)).1, (hopen b.1 (h.pathopen b.1 b.2 hb)).1]; exact hab
    · rw [List.mem_singleton.1 hb, hcx, (hopen a.1 (h.pathopen a.1 a.2 ha)).1]
      have := h.small a.1; omega
  · intro y l hl
    simp only [S.enter, List.mem_append, List.mem_singleton, Prod.mk.injEq] at hl
    rcases hl with hl | ⟨rfl, rfl⟩
    · exact h.parts _ _ hl
    · exact ⟨[], rfl⟩
  · intro y z hy hcy hs hz0 hz1
    rcases hseen y z hs with ⟨_, hf⟩ | ⟨hyx, hs⟩
    · exact hf.elim
    · have : (s.enter L x).come y = s.come y := upd_other _ hyx _
      exact hnz _ (h.done y z hy (by rw [← this]; exact hcy) hs hz0 hz1)
  · intro y k hy he
    exact (hshut k).2 (h.shuts y k ((hshut y).1 hy) he)
  · intro y y' hy hy' hle
    rcases (hmem y).1 hy with h1 | e1
    · rcases (hmem y').1 hy' with h2 | e2
      · rw [(hopen y h1).1, (hopen y' h2).1] at hle
        exact h.up y y' h1 h2 hle
      · rw [e2]; exact hupx y h1
    · rcases (hmem y').1 hy' with h2 | e2
      · rw [e1, hcx, (hopen y' h2).1] at hle
        have := h.small y'; omega
      · rw [e1, e2]; exact .refl _
  · intro y hy
    rcases (hmem y).1 hy with hy | rfl
    · obtain ⟨p, hp, hle, hl⟩ := h.down y hy
      refine ⟨p, (honp p).2 (.inl hp), ?_, hl⟩
      rw [(hopen p (hpne p hp)).1, (hopen y hy).1]; exact hle
    · exact ⟨y, (honp y).2 (.inr rfl), Nat.le_refl _, .refl _⟩
  · intro y hy
    rcases (hmem y).1 hy with hy | rfl
    · obtain ⟨hle, y', hy', he, hl⟩ := h.low y hy
      rw [(hopen y hy).1, (hopen y hy).2]
      exact ⟨hle, y', (hmem y').2 (.inl hy'), by rw [(hopen y' hy').1]; exact he, hl⟩
    · exact ⟨by rw [hcx, hlx]; exact Nat.le_refl _, y, (hmem y).2 (.inr rfl), by rw [hcx, hlx], .refl _⟩
  · intro y z hy hs hz0 hz1 hzo
    rcases hseen y z hs with ⟨_, hf⟩ | ⟨hyx, hs⟩
    · exact hf.elim
    · have hy : y ∈ s.opens := by
        rcases (hmem y).1 hy with hy | e
        · exact hy
        · exact absurd e hyx
      rw [(hopen y hy).2]
      have hzc := h.done y z (h.openlt y hy).1 (h.openlt y hy).2 hs hz0 hz1
      rw [hcome _ hzc]
      refine h.lows y z hy hs hz0 hz1 ?_
      rcases (hmem z.toNat).1 hzo with e | e
      · exact e
      · rw [e] at hzc; exact absurd h0 hzc
  · intro y hy hyp
    have hyx : y ≠ x := fun e => hyp ((honp y).2 (.inr e))
    have hy : y ∈ s.opens := by
      rcases (hmem y).1 hy with hy | e
      · exact hy
      · exact absurd e hyx
    obtain ⟨p, hp, h1, h2, h3⟩ := h.seg y hy (fun e => hyp ((honp y).2 (.inl e)))
    refine ⟨p, (honp p).2 (.inl hp), ?_, ?_, fun q hq hle => ?_⟩
    · rw [(hopen p (hpne p hp)).1, (hopen y hy).1]; exact h1
    · rw [(hopen p (hpne p hp)).2, (hopen y hy).2]; exact h2
    · rcases (honp q).1 hq with hq | e
      · rw [(hopen p (hpne p hp)).1, (hopen q (hpne q hq)).1]
        rw [(hopen y hy).1, (hopen q (hpne q hq)).1] at hle
        exact h3 q hq hle
      · rw [e, hcx, (hopen y hy).1] at hle
        have := h.small y; omega
  · intro y hy
    have hy' := (hshut y).1 hy
    have : (s.enter L x).least y = s.least y := upd_other _ (hne y hy'.2.1) _
    rw [this]; exact h.tops y hy'
  · intro y hy
    obtain ⟨h1, h1', h2⟩ := h.group y ((hshut y).1 hy)
    exact ⟨h1, h1', fun y' hy' hm => ⟨(hshut y').2 (h2 y' hy' hm).1, (h2 y' hy' hm).2⟩⟩
/-- An edge was looked at. -/
theorem Inv.skip {n : Nat} {L : Nat → List Int} {s : S} (h : Inv n L s) {a b : List (Nat × List Int)} {t : Nat} {z : Int} {l : List Int} (hp : s.path = a ++ (t, z :: l) :: b)
    (hz : 0 ≤ z → z < n → s.come z.toNat ≠ 0 ∧ (z.toNat ∈ s.opens → s.least t ≤ s.come z.toNat)) : Inv n L { s with path := a ++ (t, l) :: b } := by
  generalize hs' : ({ s with path := a ++ (t, l) :: b } : S) = s'
  have e1 : s'.come = s.come := by rw [← hs']
  have e2 : s'.least = s.least := by rw [← hs']
  have e3 : s'.opens = s.opens := by rw [← hs']
  have e4 : s'.root = s.root := by rw [← hs']
  have e5 : s'.count = s.count := by rw [← hs']
  have e6 : s'.path = a ++ (t, l) :: b := by rw [← hs']
  have htop : (t, z :: l) ∈ s.path := by rw [hp]; simp
  have honp : ∀ y, s'.onPath y ↔ s.onPath y := by
    intro y
    constructor
    · rintro ⟨m, hm⟩
      rw [e6] at hm
      rcases List.mem_append.1 hm with hm | hm
      · exact ⟨m, by rw [hp]; exact List.mem_append_left _ hm⟩
      · rcases List.mem_cons.1 hm with hm | hm
        · injection hm with e _
          exact ⟨z :: l, by rw [hp, e]; simp⟩
        · exact ⟨m, by rw [hp]; exact List.mem_append_right _ (List.mem_cons_of_mem _ hm)⟩
    · rintro ⟨m, hm⟩
      rw [hp] at hm
      rcases List.mem_append.1 hm with hm | hm
      · exact ⟨m, by rw [e6]; exact List.mem_append_left _ hm⟩
      · rcases List.mem_cons.1 hm with hm | hm
        · injection hm with e _
          exact ⟨l, by rw [e6, e]; simp⟩
        · exact ⟨m, by rw [e6]; exact List.mem_append_right _ (List.mem_cons_of_mem _ hm)⟩
  have hshut : ∀ y, s'.shutP n y ↔ s.shutP n y := fun y => by unfold S.shutP; rw [e1, e3]
  have hmem : ∀ y m, (y, m) ∈ s'.path → (y = t ∧ m = l) ∨ (y, m) ∈ s.path := by
    intro y m hm
    rw [e6] at hm
    rcases List.mem_append.1 hm with hm | hm
    · exact .inr (by rw [hp]; exact List.mem_append_left _ hm)
    · rcases List.mem_cons.1 hm with hm | hm
      · injection hm with e e'
        exact .inl ⟨e, e'⟩
      · exact .inr (by rw [hp]; exact List.mem_append_right _ (List.mem_cons_of_mem _ hm))
  have hseen : ∀ y z', s'.seen L y z' → s.seen L y z' ∨ (y = t ∧ z' = z) := by
    intro y z' hs
    rcases hs with ⟨d, m, hm, hL, hz'⟩ | ⟨hn, hz'⟩
    · rcases hmem y m hm with ⟨ey, em⟩ | hm
      · subst ey em
        obtain ⟨d', hd'⟩ := h.parts _ _ htop
        have hd : d = d' ++ [z] := by
          have : d ++ m = (d' ++ [z]) ++ m := by rw [← hL, hd']; simp
          exact List.append_cancel_right this
        rw [hd] at hz'
        rcases List.mem_append.1 hz' with hz' | hz'
        · exact .inl (.inl ⟨d', z :: m, htop, hd', hz'⟩)
        · exact .inr ⟨rfl, List.mem_singleton.1 hz'⟩
      · exact .inl (.inl ⟨d, m, hm, hL, hz'⟩)
    · exact .inl (.inr ⟨fun e => hn ((honp y).2 e), hz'⟩)
  refine ⟨fun y => ?_, fun y hy => ?_, ?_, fun y hy => ?_, ?_, ?_, ?_, ?_, ?_, ?_, ?_, ?_, ?_, ?_, ?_, ?_, ?_⟩
  · rw [e1, e5]; exact h.small y
  · rw [e1]; exact h.zero y hy
  · rw [e1, e5]; exact h.many
  · rw [e1]; rw [e3] at hy; exact h.openlt y hy
  · rw [e1, e3]; exact h.sorted
  · intro y m hm
    rw [e3]
    rcases hmem y m hm with ⟨ey, _⟩ | hm
    · rw [ey]; exact h.pathopen _ _ htop
    · exact h.pathopen _ _ hm
  · rw [e1, e6]
    have := h.pathsorted
    rw [hp] at this
    rw [List.pairwise_append] at this ⊢
    obtain ⟨q1, q2, q3⟩ := this
    rw [List.pairwise_cons] at q2 ⊢
    refine ⟨q1, ⟨q2.1, q2.2⟩, fun x hx y hy => ?_⟩
    rcases List.mem_cons.1 hy with rfl | hy
    · exact q3 x hx (t, z :: l) (by simp)
    · exact q3 x hx y (List.mem_cons_of_mem _ hy)
  · intro y m hm
    rcases hmem y m hm with ⟨ey, em⟩ | hm
    · subst ey em
      obtain ⟨d', hd'⟩ := h.parts _ _ htop
      exact ⟨d' ++ [z], by rw [hd']; simp⟩
    · exact h.parts _ _ hm
  · intro y z' hy hc hs h0 h1
    rw [e1] at hc ⊢
    rcases hseen y z' hs with hs | ⟨_, e⟩
    · exact h.done y z' hy hc hs h0 h1
    · rw [e] at h0 h1 ⊢; exact (hz h0 h1).1
  · intro y k hy he
    exact (hshut k).2 (h.shuts y k ((hshut y).1 hy) he)
  · rw [e1, e3]; exact h.up
  · intro y hy
    rw [e3] at hy
    rw [e1]
    obtain ⟨p, hpp, r⟩ := h.down y hy
    exact ⟨p, (honp p).2 hpp, r⟩
  · rw [e1, e2, e3]; exact h.low
  · intro y z' hy hs h0 h1 ho
    rw [e3] at hy ho
    rw [e1, e2]
    rcases hseen y z' hs with hs | ⟨ey, e⟩
    · exact h.lows y z' hy hs h0 h1 ho
    · rw [e] at h0 h1 ho ⊢; rw [ey]; exact (hz h0 h1).2 ho
  · intro y hy hn
    rw [e3] at hy
    obtain ⟨p, hpp, a1, a2, a3⟩ := h.seg y hy (fun e => hn ((honp y).2 e))
    rw [e1, e2]
    exact ⟨p, (honp p).2 hpp, a1, a2, fun q hq => a3 q ((honp q).1 hq)⟩
  · intro y hy; rw [e2]; exact h.tops y ((hshut y).1 hy)
  · intro y hy
    rw [e4]
    obtain ⟨a1, a2, a3⟩ := h.group y ((hshut y).1 hy)
    exact ⟨a1, a2, fun y' b1 b2 => ⟨(hshut y').2 (a3 y' b1 b2).1, (a3 y' b1 b2).2⟩⟩
theorem Inv.under {n : Nat} {L : Nat → List Int} {s : S} (h : Inv n L s) (hn : n < top) {x : Nat} (hx : x ∈ s.opens) : s.least x < top := by
  have h1 := (h.low x hx).1
  have h2 := h.small x
  have h3 := h.countle
  omega
theorem Inv.lasteq {n : Nat} {L : Nat → List Int} {s : S} (h : Inv n L s) {r : List (Nat × List Int)} {t : Nat} {l : List Int} (hp : s.path = r ++ [(t, l)]) {p : Nat} (hpp : s.onPath p) (hle : s.come t ≤ s.come p) : p = t := by
  have h1 := h.last hp hpp
  obtain ⟨m, hm⟩ := hpp
  exact h.inj (h.pathopen _ _ hm) (h.pathopen t l (by rw [hp]; simp)) (by omega)
/-- The path's last thing knows how low one leads that it uses. -/
theorem Inv.leads {n : Nat} {L : Nat → List Int} {s : S} (h : Inv n L s) (hn : n < top) {t y : Nat} (ht : s.onPath t) (hl : Leads n L t y) (hy : y < n) (hc : s.come y ≠ 0) : Inv n L (s.leads t y) := by
  have hto : t ∈ s.opens := by obtain ⟨m, hm⟩ := ht; exact h.pathopen _ _ hm
  have hle : ∀ x, (s.leads t y).least x ≤ s.least x := by
    intro x
    show upd s.least t _ x ≤ _
    by_cases e : x = t
    · rw [e, upd_same]; exact Nat.min_le_left _ _
    · rw [upd_other _ e]; exact Nat.le_refl _
  have hne : ∀ x, x ≠ t → (s.leads t y).least x = s.least x := fun x e => upd_other _ e _
  refine ⟨h.small, h.zero, h.many, h.openlt, h.sorted, h.pathopen, h.pathsorted, h.parts, h.done, h.shuts, h.up, h.down, ?_, ?_, ?_, ?_, h.group⟩
  · intro x hx
    refine ⟨Nat.le_trans (hle x) (h.low x hx).1, ?_⟩
    by_cases e : x = t
    · subst e
      have he : (s.leads x y).least x = min (s.least x) (s.least y) := upd_same _ _ _
      rw [he]
      by_cases hyo : y ∈ s.opens
      · rcases Nat.le_total (s.least x) (s.least y) with h9 | h9
        · rw [Nat.min_eq_left h9]; exact (h.low x hx).2
        · rw [Nat.min_eq_right h9]
          obtain ⟨_, y', a1, a2, a3⟩ := h.low y hyo
          exact ⟨y', a1, a2, hl.trans a3⟩
      · have h8 := h.tops y ⟨hy, hc, hyo⟩
        have h9 := h.under hn hx
        rw [h8, Nat.min_eq_left (by omega)]; exact (h.low x hx).2
    · rw [hne x e]; exact (h.low x hx).2
  · intro x z hx hs h0 h1 ho
    exact Nat.le_trans (hle x) (h.lows x z hx hs h0 h1 ho)
  · intro x hx hnp
    obtain ⟨p, a1, a2, a3, a4⟩ := h.seg x hx hnp
    have hxt : x ≠ t := fun e => hnp (by rw [e]; exact ht)
    exact ⟨p, a1, a2, by rw [hne x hxt]; exact Nat.le_trans (hle p) a3, a4⟩
  · intro x hx
    have hxt : x ≠ t := fun e => hx.2.2 (by rw [e]; exact hto)
    rw [hne x hxt]; exact h.tops x hx
/-- The path's last thing is left, and is open still: it does not begin the path. -/
theorem Inv.parent {n : Nat} {L : Nat → List Int} {s : S} (h : Inv n L s) {r : List (Nat × List Int)} {t : Nat} {l : List Int} (hp : s.path = r ++ [(t, l)]) (hne : s.least t ≠ s.come t) : ∃ p, p ≠ t ∧ s.onPath p ∧ s.come p < s.come t ∧ Leads n L t p := by
  have hto : t ∈ s.opens := h.pathopen t l (by rw [hp]; simp)
  obtain ⟨h1, y, hy, he, hl⟩ := h.low t hto
  obtain ⟨p, hpp, hle, hl2⟩ := h.down y hy
  exact ⟨p, fun e => by rw [e] at hle; omega, hpp, by omega, hl.trans hl2⟩
theorem Inv.back {n : Nat} {L : Nat → List Int} {s : S} (h : Inv n L s) {r : List (Nat × List Int)} {u t : Nat} {m : List Int} (hp : s.path = r ++ [(u, m), (t, [])]) (hne : s.least t ≠ s.come t) :
    Inv n L ({ s with path := r ++ [(u, m)], least := upd s.least u (min (s.least u) (s.least t)) } : S) := by
  have hp2 : s.path = (r ++ [(u, m)]) ++ [(t, [])] := by rw [hp]; simp
  obtain ⟨pt, hpt1, hpt2, hpt3, hpt4⟩ := h.parent hp2 hne
  have hut : (u, m) ∈ s.path := by rw [hp]; simp
  have htt : (t, []) ∈ s.path := by rw [hp]; simp
  have huo := h.pathopen _ _ hut
  have hto := h.pathopen _ _ htt
  have hult : s.come u < s.come t := by
    have := h.pathsorted
    rw [hp2, List.pairwise_append] at this
    exact this.2.2 (u, m) (by simp) (t, []) (by simp)
  have hune : t ≠ u := fun e => by rw [e] at hult; omega
  generalize hs' : ({ s with path := r ++ [(u, m)], least := upd s.least u (min (s.least u) (s.least t)) } : S) = s'
  have e1 : s'.come = s.come := by rw [← hs']
  have e2 : s'.least = upd s.least u (min (s.least u) (s.least t)) := by rw [← hs']
  have e3 : s'.opens = s.opens := by rw [← hs']
  have e4 : s'.root = s.root := by rw [← hs']
  have e5 : s'.count = s.count := by rw [← hs']
  have e6 : s'.path = r ++ [(u, m)] := by rw [← hs']
  have hpath : ∀ y l, (y, l) ∈ s.path ↔ ((y, l) ∈ s'.path ∨ (y = t ∧ l = [])) := by
    intro y l; rw [hp2, e6]; simp [or_assoc]
  have honp : ∀ y, s.onPath y ↔ (s'.onPath y ∨ y = t) := by
    intro y
    constructor
    · rintro ⟨l, hl⟩
      rcases (hpath y l).1 hl with hl | hl
      · exact .inl ⟨l, hl⟩
      · exact .inr hl.1
    · rintro (⟨l, hl⟩ | rfl)
      · exact ⟨l, (hpath y l).2 (.inl hl)⟩
      · exact ⟨[], htt⟩
  have htn : ¬ s'.onPath t := by
    rintro ⟨l, hl⟩
    rw [e6] at hl
    exact h.once hp2 hl
  have hu' : s'.onPath u := ⟨m, by rw [e6]; simp⟩
  have hlastu : ∀ q, s'.onPath q → s.come q ≤ s.come u := by
    rintro q ⟨l, hl⟩
    have := h.pathsorted
    rw [hp2, List.pairwise_append] at this
    rw [e6] at hl
    have h3 := this.1
    rw [List.pairwise_append] at h3
    rcases List.mem_append.1 hl with hl | hl
    · have := h3.2.2 (q, l) hl (u, m) (by simp); simp only at this; omega
    · simp only [List.mem_singleton, Prod.mk.injEq] at hl; rw [hl.1]; exact Nat.le_refl _
  have hle : ∀ x, s'.least x ≤ s.least x := by
    intro x
    rw [e2]
    by_cases e : x = u
    · rw [e, upd_same]; exact Nat.min_le_left _ _
    · rw [upd_other _ e]; exact Nat.le_refl _
  have hnel : ∀ x, x ≠ u → s'.least x = s.least x := fun x e => by rw [e2]; exact upd_other _ e _
  have hlu : s'.least u = min (s.least u) (s.least t) := by rw [e2]; exact upd_same _ _ _
  have hshut : ∀ y, s'.shutP n y ↔ s.shutP n y := fun y => by unfold S.shutP; rw [e1, e3]
  have hseen : ∀ y z, s'.seen L y z → s.seen L y z := by
    intro y z hs
    rcases hs with ⟨d, l, hm, hL, hz⟩ | ⟨hn, hz⟩
    · exact .inl ⟨d, l, (hpath _ _).2 (.inl hm), hL, hz⟩
    · by_cases e : y = t
      · subst e
        exact .inl ⟨L y, [], htt, by simp, hz⟩
      · refine .inr ⟨fun e' => ?_, hz⟩
        rcases (honp y).1 e' with e' | e'
        · exact hn e'
        · exact e e'
  refine ⟨fun y => ?_, fun y hy => ?_, ?_, fun y hy => ?_, ?_, ?_, ?_, ?_, ?_, ?_, ?_, ?_, ?_, ?_, ?_, ?_, ?_⟩
  · rw [e1, e5]; exact h.small y
  · rw [e1]; exact h.zero y hy
  · rw [e1, e5]; exact h.many
  · rw [e1]; rw [e3] at hy; exact h.openlt y hy
  · rw [e1, e3]; exact h.sorted
  · intro y l hl
    rw [e3]; exact h.pathopen _ _ ((hpath _ _).2 (.inl hl))
  · rw [e1, e6]
    have := h.pathsorted
    rw [hp2, List.pairwise_append] at this
    exact this.1
  · intro y l hl; exact h.parts _ _ ((hpath _ _).2 (.inl hl))
  · intro y z hy hc hs h0 h1
    rw [e1] at hc ⊢
    exact h.done y z hy hc (hseen y z hs) h0 h1
  · intro y k hy he
    exact (hshut k).2 (h.shuts y k ((hshut y).1 hy) he)
  · rw [e1, e3]; exact h.up
  · intro y hy
    rw [e3] at hy
    rw [e1]
    obtain ⟨p, hpp, r1, r2⟩ := h.down y hy
    rcases (honp p).1 hpp with hpp | rfl
    · exact ⟨p, hpp, r1, r2⟩
    · rcases (honp pt).1 hpt2 with h9 | h9
      · exact ⟨pt, h9, by omega, r2.trans hpt4⟩
      · exact absurd h9 hpt1
  · intro x hx
    rw [e3] at hx
    rw [e1, e3]
    refine ⟨Nat.le_trans (hle x) (h.low x hx).1, ?_⟩
    by_cases e : x = u
    · subst e
      rw [hlu]
      rcases Nat.le_total (s.least x) (s.least t) with h9 | h9
      · rw [Nat.min_eq_left h9]; exact (h.low x hx).2
      · rw [Nat.min_eq_right h9]
        obtain ⟨_, y', a1, a2, a3⟩ := h.low t hto
        exact ⟨y', a1, a2, (h.up x t hx hto (by omega)).trans a3⟩
    · rw [hnel x e]; exact (h.low x hx).2
  · intro x z hx hs h0 h1 ho
    rw [e3] at hx ho
    rw [e1]
    exact Nat.le_trans (hle x) (h.lows x z hx (hseen x z hs) h0 h1 ho)
  · intro x hx hnp
    rw [e3] at hx
    rw [e1]
    by_cases e : x = t
    · subst e
      refine ⟨u, hu', by omega, by rw [hlu, hnel x hune]; exact Nat.min_le_right _ _, fun q hq _ => hlastu q hq⟩
    · have hxnp : ¬ s.onPath x := fun e' => by
        rcases (honp x).1 e' with e' | e'
        · exact hnp e'
        · exact e e'
      have hxu : x ≠ u := fun e' => hnp (by rw [e']; exact hu')
      obtain ⟨p, a1, a2, a3, a4⟩ := h.seg x hx hxnp
      rw [hnel x hxu]
      rcases (honp p).1 a1 with hpp | rfl
      · exact ⟨p, hpp, a2, Nat.le_trans (hle p) a3, fun q hq => a4 q ((honp q).2 (.inl hq))⟩
      · exact ⟨u, hu', by omega, by rw [hlu]; exact Nat.le_trans (Nat.min_le_right _ _) a3, fun q hq _ => hlastu q hq⟩
  · intro x hx
    have hx' := (hshut x).1 hx
    rw [hnel x (fun e => hx'.2.2 (by rw [e]; exact huo))]
    exact h.tops x hx'
  · intro y hy
    rw [e4]
    obtain ⟨a1, a2, a3⟩ := h.group y ((hshut y).1 hy)
    exact ⟨a1, a2, fun y' b1 b2 => ⟨(hshut y').2 (a3 y' b1 b2).1, (a3 y' b1 b2).2⟩⟩
/-- The path's last thing is left, and begins a group. -/
theorem Inv.shut {n : Nat} {L : Nat → List Int} {s : S} (h : Inv n L s) {r : List (Nat × List Int)} {t : Nat} (hp : s.path = r ++ [(t, [])]) (he : s.least t = s.come t) {pre post : List Nat} (ho : s.opens = pre ++ t :: post) :
    Inv n L ({ s.shut pre (t :: post) t with path := r } : S) := by
  have htt : (t, []) ∈ s.path := by rw [hp]; simp
  have hto := h.pathopen _ _ htt
  generalize hs' : ({ s.shut pre (t :: post) t with path := r } : S) = s'
  have e1 : s'.come = s.come := by rw [← hs']; rfl
  have e2 : s'.least = fun j => if j ∈ t :: post then top else s.least j := by rw [← hs']; rfl
  have e3 : s'.opens = pre := by rw [← hs']; rfl
  have e4 : s'.root = fun j => if j ∈ t :: post then t else s.root j := by rw [← hs']; rfl
  have e5 : s'.count = s.count := by rw [← hs']; rfl
  have e6 : s'.path = r := by rw [← hs']
  have hsort := h.sorted
  rw [ho, List.pairwise_append] at hsort
  have hpre : ∀ x ∈ pre, s.come x < s.come t := fun x hx => hsort.2.2 x hx t (by simp)
  have hpost : ∀ x ∈ t :: post, s.come t ≤ s.come x := by
    intro x hx
    rcases List.mem_cons.1 hx with rfl | hx
    · exact Nat.le_refl _
    · have := (List.pairwise_cons.1 hsort.2.1).1 x hx; omega
  have hopen : ∀ x, x ∈ s.opens ↔ (x ∈ pre ∨ x ∈ t :: post) := fun x => by rw [ho]; simp
  have hdis : ∀ x ∈ pre, x ∉ t :: post := fun x hx hx' => by have := hpre x hx; have := hpost x hx'; omega
  have hpreo : ∀ x ∈ pre, x ∈ s.opens := fun x hx => (hopen x).2 (.inl hx)
  have hpath : ∀ y l, (y, l) ∈ s.path ↔ ((y, l) ∈ s'.path ∨ (y = t ∧ l = [])) := by
    intro y l; rw [hp, e6]; simp
  have honp : ∀ y, s.onPath y ↔ (s'.onPath y ∨ y = t) := by
    intro y
    constructor
    · rintro ⟨l, hl⟩
      rcases (hpath y l).1 hl with hl | hl
      · exact .inl ⟨l, hl⟩
      · exact .inr hl.1
    · rintro (⟨l, hl⟩ | rfl)
      · exact ⟨l, (hpath y l).2 (.inl hl)⟩
      · exact ⟨[], htt⟩
  have hbelow : ∀ y, s.onPath y → s.come y < s.come t → s'.onPath y := by
    intro y hy hlt
    rcases (honp y).1 hy with hy | rfl
    · exact hy
    · omega
  have hpl : ∀ y l, (y, l) ∈ s'.path → y ∈ pre := by
    intro y l hl
    have h1 := h.pathopen y l ((hpath _ _).2 (.inl hl))
    rcases (hopen y).1 h1 with h1 | h1
    · exact h1
    · have h2 := hpost y h1
      have h3 : s.come y < s.come t := by
        have := h.pathsorted
        rw [hp, List.pairwise_append] at this
        rw [e6] at hl
        exact this.2.2 (y, l) hl (t, []) (by simp)
      omega
  have hnotpost : ∀ y ∈ post, ¬ s.onPath y := by
    rintro y hy hyp
    have h1 := h.last hp hyp
    have h2 := (List.pairwise_cons.1 hsort.2.1).1 y hy
    omega
  have hseen : ∀ y z, s'.seen L y z → s.seen L y z := by
    intro y z hs
    rcases hs with ⟨d, l, hm, hL, hz⟩ | ⟨hn, hz⟩
    · exact .inl ⟨d, l, (hpath _ _).2 (.inl hm), hL, hz⟩
    · by_cases e : y = t
      · subst e
        exact .inl ⟨L y, [], htt, by simp, hz⟩
      · refine .inr ⟨fun e' => ?_, hz⟩
        rcases (honp y).1 e' with e' | e'
        · exact hn e'
        · exact e e'
  have hallseen : ∀ y ∈ t :: post, ∀ z ∈ L y, s.seen L y z := by
    intro y hy z hz
    rcases List.mem_cons.1 hy with rfl | hy
    · exact .inl ⟨L y, [], htt, by simp, hz⟩
    · exact .inr ⟨hnotpost y hy, hz⟩
  have hlow : ∀ y ∈ t :: post, s.come t ≤ s.least y := by
    intro y hy
    rcases List.mem_cons.1 hy with rfl | hy'
    · omega
    · obtain ⟨p, a1, a2, a3, a4⟩ := h.seg y ((hopen y).2 (.inr hy)) (hnotpost y hy')
      have h9 := a4 t ⟨[], htt⟩ (hpost y hy)
      have := h.lasteq hp a1 h9
      rw [this] at a3; omega
  have hshut : ∀ y, s'.shutP n y ↔ (s.shutP n y ∨ y ∈ t :: post) := by
    intro y
    unfold S.shutP
    rw [e1, e3]
    constructor
    · rintro ⟨h1, h2, h3⟩
      by_cases h4 : y ∈ t :: post
      · exact .inr h4
      · exact .inl ⟨h1, h2, fun e => by
          rcases (hopen y).1 e with e | e
          · exact h3 e
          · exact h4 e⟩
    · rintro (⟨h1, h2, h3⟩ | h1)
      · exact ⟨h1, h2, fun e => h3 (hpreo y e)⟩
      · have := h.openlt y ((hopen y).2 (.inr h1))
        exact ⟨this.1, this.2, fun e => hdis y e h1⟩
  have hclosed : ∀ y k, s'.shutP n y → Edge n L y k → s'.shutP n k := by
    intro y k hy hek
    rcases (hshut y).1 hy with hy | hy
    · exact (hshut k).2 (.inl (h.shuts y k hy hek))
    · have hyo := (hopen y).2 (.inr hy)
      have hsn := hallseen y hy k hek.2.2
      have hkc := h.done y k (h.openlt y hyo).1 (h.openlt y hyo).2 hsn (by omega) (by have := hek.2.1; omega)
      simp only [Int.toNat_natCast] at hkc
      by_cases hko : k ∈ s.opens
      · have hlo := h.lows y k hyo hsn (by omega) (by have := hek.2.1; omega) (by simpa using hko)
        simp only [Int.toNat_natCast] at hlo
        have := hlow y hy
        rcases (hopen k).1 hko with h9 | h9
        · have := hpre k h9; omega
        · exact (hshut k).2 (.inr h9)
      · exact (hshut k).2 (.inl ⟨hek.2.1, hkc, hko⟩)
  have hmut : ∀ y ∈ t :: post, Mut n L y t := fun y hy => ⟨h.toTop hp ((hopen y).2 (.inr hy)), h.up t y hto ((hopen y).2 (.inr hy)) (hpost y hy)⟩
  have hleast : ∀ x ∈ pre, s'.least x = s.least x := fun x hx => by rw [e2]; exact if_neg (hdis x hx)
  refine ⟨fun y => ?_, fun y hy => ?_, ?_, fun y hy => ?_, ?_, ?_, ?_, ?_, ?_, ?_, ?_, ?_, ?_, ?_, ?_, ?_, ?_⟩
  · rw [e1, e5]; exact h.small y
  · rw [e1]; exact h.zero y hy
  · rw [e1, e5]; exact h.many
  · rw [e1]; rw [e3] at hy; exact h.openlt y (hpreo y hy)
  · rw [e1, e3]; exact hsort.1
  · intro y l hl; rw [e3]; exact hpl y l hl
  · rw [e1, e6]
    have := h.pathsorted
    rw [hp, List.pairwise_append] at this
    exact this.1
  · intro y l hl; exact h.parts _ _ ((hpath _ _).2 (.inl hl))
  · intro y z hy hc hs h0 h1
    rw [e1] at hc ⊢
    exact h.done y z hy hc (hseen y z hs) h0 h1
  · exact hclosed
  · intro x y hx hy
    rw [e1]; rw [e3] at hx hy
    exact h.up x y (hpreo x hx) (hpreo y hy)
  · intro y hy
    rw [e3] at hy
    rw [e1]
    obtain ⟨p, hpp, r1, r2⟩ := h.down y (hpreo y hy)
    have := hpre y hy
    exact ⟨p, hbelow p hpp (by omega), r1, r2⟩
  · intro x hx
    rw [e3] at hx
    rw [e1, e3, hleast x hx]
    obtain ⟨a1, y, a2, a3, a4⟩ := h.low x (hpreo x hx)
    refine ⟨a1, y, ?_, a3, a4⟩
    rcases (hopen y).1 a2 with h9 | h9
    · exact h9
    · have := hpost y h9; have := hpre x hx; omega
  · intro x z hx hs h0 h1 hzo
    rw [e3] at hx hzo
    rw [e1, hleast x hx]
    exact h.lows x z (hpreo x hx) (hseen x z hs) h0 h1 (hpreo _ hzo)
  · intro x hx hnp
    rw [e3] at hx
    have hlt := hpre x hx
    have hxnp : ¬ s.onPath x := fun e' => hnp (hbelow x e' hlt)
    obtain ⟨p, a1, a2, a3, a4⟩ := h.seg x (hpreo x hx) hxnp
    have hp' := hbelow p a1 (by omega)
    have hpp : p ∈ pre := by obtain ⟨l, hl⟩ := hp'; exact hpl p l hl
    rw [e1, hleast x hx]
    exact ⟨p, hp', a2, by rw [hleast p hpp]; exact a3, fun q hq => a4 q ((honp q).2 (.inl hq))⟩
  · intro x hx
    rw [e2]
    by_cases h9 : x ∈ t :: post
    · exact if_pos h9
    · simp only [if_neg h9]
      rcases (hshut x).1 hx with hx | hx
      · exact h.tops x hx
      · exact absurd hx h9
  · intro y hy
    rw [e4]
    by_cases h9 : y ∈ t :: post
    · simp only [if_pos h9]
      refine ⟨hmut y h9, (h.openlt t hto).1, fun y' hy' hm => ?_⟩
      have hs := Leads.inside (P := fun k => s'.shutP n k) hclosed hm.1 hy
      refine ⟨hs, if_pos ?_⟩
      rcases (hshut y').1 hs with h8 | h8
      · have := Leads.inside (P := fun k => s.shutP n k) h.shuts hm.2 h8
        exact absurd ((hopen y).2 (.inr h9)) this.2.2
      · exact h8
    · simp only [if_neg h9]
      have hy0 : s.shutP n y := by
        rcases (hshut y).1 hy with h8 | h8
        · exact h8
        · exact absurd h8 h9
      obtain ⟨a1, a2, a3⟩ := h.group y hy0
      refine ⟨a1, a2, fun y' hy' hm => ?_⟩
      obtain ⟨b1, b2⟩ := a3 y' hy' hm
      refine ⟨(hshut y').2 (.inl b1), ?_⟩
      rw [if_neg (fun e => b1.2.2 ((hopen y').2 (.inr e)))]; exact b2
end Go.Proofs.Ythmnghngcbkjpaa
