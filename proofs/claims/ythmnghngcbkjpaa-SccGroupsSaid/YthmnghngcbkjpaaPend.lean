/- The groups by their numbers, and the row in which they are told. No program, no conditions but those that each theorem names. -/
import Derived.Test.YthmnghngcbkjpaaOrder
namespace Go.Proofs.Ythmnghngcbkjpaa

/-- Groups by their numbers: they stand by their least things. -/
structure Grouped (n : Nat) (L : Nat → List Int) (m : Nat) (inn : Nat → Nat) : Prop where
  lt : ∀ j, j < n → inn j < m
  same : ∀ i j, i < n → j < n → (inn i = inn j ↔ Mut n L i j)
  some : ∀ g, g < m → ∃ j, j < n ∧ inn j = g
  rise : ∀ g g' j', g < g' → j' < n → inn j' = g' → ∃ j, j < j' ∧ inn j = g
def grp (n : Nat) (inn : Nat → Nat) (g : Nat) : List Nat := (List.range n).filter (fun k => inn k == g)
def readyG (U : Nat → List Nat) (told : Nat → Bool) (g : Nat) : Bool := !told g && (U g).all (fun x => told x)
def nextG (m : Nat) (U : Nat → List Nat) (told : Nat → Bool) : Option Nat := (List.range m).find? (fun g => readyG U told g)
inductive ToldG (m : Nat) (U : Nat → List Nat) : (Nat → Bool) → List Nat → Prop
  | nil : ToldG m U (fun _ => false) []
  | snoc {t : Nat → Bool} {r : List Nat} {g : Nat} : ToldG m U t r → nextG m U t = some g → ToldG m U (upd t g true) (r ++ [g])
/-- Which other groups each group uses. -/
def UsesG (n : Nat) (L : Nat → List Int) (inn : Nat → Nat) (m : Nat) (U : Nat → List Nat) : Prop := ∀ g, g < m → ∀ x, (x ∈ U g ↔ ∃ i k, i < n ∧ inn i = g ∧ Edge n L i k ∧ inn k = x ∧ x ≠ g)
theorem readyG_iff {U : Nat → List Nat} {told : Nat → Bool} {g : Nat} : readyG U told g = true ↔ (told g = false ∧ ∀ x ∈ U g, told x = true) := by
  unfold readyG
  rw [Bool.and_eq_true, List.all_eq_true]
  simp
theorem find_least {m : Nat} {p : Nat → Bool} {g : Nat} : (List.range m).find? p = some g ↔ (g < m ∧ p g = true ∧ ∀ x, x < g → p x = false) := by
  rw [List.find?_range_eq_some]
  constructor
  · rintro ⟨a, b, c⟩
    exact ⟨List.mem_range.1 b, a, fun x hx => by simpa using c x hx⟩
  · rintro ⟨a, b, c⟩
    exact ⟨b, List.mem_range.2 a, fun x hx => by simpa using c x hx⟩
theorem nextG_some {m : Nat} {U : Nat → List Nat} {told : Nat → Bool} {g : Nat} : nextG m U told = some g ↔ (g < m ∧ readyG U told g = true ∧ ∀ x, x < g → readyG U told x = false) := find_least
theorem next_least {n : Nat} {ld : Nat → Nat → Bool} {dn : Nat → Bool} {g : Nat} : next n ld dn = some g ↔ (g < n ∧ ready n ld dn g = true ∧ ∀ x, x < g → ready n ld dn x = false) := find_least
theorem nextG_none {m : Nat} {U : Nat → List Nat} {told : Nat → Bool} : nextG m U told = none ↔ ∀ g, g < m → readyG U told g = false := by
  unfold nextG; rw [List.find?_eq_none]; simp

section
variable {n : Nat} {L : Nat → List Int} {ld : Nat → Nat → Bool} {m : Nat} {inn : Nat → Nat} {U : Nat → List Nat}
theorem least_ex {P : Nat → Prop} : ∀ j, P j → ∃ i, i ≤ j ∧ P i ∧ ∀ x, x < i → ¬ P x := by
  intro j
  induction j using Nat.strongRecOn with
  | ind j ih =>
    intro hj
    by_cases h : ∃ x, x < j ∧ P x
    · obtain ⟨x, hx, hp⟩ := h
      obtain ⟨i, a, b, c⟩ := ih x hx hp
      exact ⟨i, by omega, b, c⟩
    · exact ⟨j, Nat.le_refl _, hj, fun x hx hp => h ⟨x, hx, hp⟩⟩
/-- A thing's group is ready just if it is. -/
theorem ready_link (hld : LdIs n L ld) (hg : Grouped n L m inn) (hU : UsesG n L inn m U) {told dn : Nat → Bool} (hdn : ∀ k, k < n → dn k = told (inn k)) (hdown : ∀ g, g < m → told g = true → ∀ x ∈ U g, told x = true) {k : Nat} (hk : k < n) :
    ready n ld dn k = readyG U told (inn k) := by
  rw [Bool.eq_iff_iff, ready_iff, readyG_iff, hdn k hk]
  have hin := hg.lt k hk
  constructor
  · rintro ⟨h1, h2⟩
    refine ⟨h1, fun x hx => ?_⟩
    obtain ⟨k1, k2, a1, a2, a3, a4, a5⟩ := (hU _ hin x).1 hx
    have hk2 := a3.2.1
    have hm := (hg.same k1 k a1 hk).1 a2
    have hl : Leads n L k k2 := hm.2.step a3
    have := h2 k2 hk2 ((hld k k2 hk hk2).2 hl) (by
      cases e : ld k2 k with
      | false => rfl
      | true => exact absurd ((hg.same k2 k hk2 hk).2 ⟨(hld k2 k hk2 hk).1 e, hl⟩) (by rw [a4]; exact a5))
    rw [hdn k2 hk2, a4] at this; exact this
  · rintro ⟨h1, h2⟩
    refine ⟨h1, fun j hj hl hnl => ?_⟩
    have key : ∀ j, Leads n L k j → j < n → inn j = inn k ∨ told (inn j) = true := by
      intro j hl
      induction hl with
      | refl => intro _; exact .inl rfl
      | @step j j' hl he ih =>
        intro hj'
        rcases ih he.1 with e | e
        · by_cases e2 : inn j' = inn k
          · exact .inl e2
          · exact .inr (h2 _ ((hU _ hin _).2 ⟨j, j', he.1, e, he, rfl, e2⟩))
        · by_cases e2 : inn j' = inn j
          · exact .inr (by rw [e2]; exact e)
          · exact .inr (hdown _ (hg.lt j he.1) e _ ((hU _ (hg.lt j he.1) _).2 ⟨j, j', he.1, rfl, he, rfl, e2⟩))
    rcases key j ((hld k j hk hj).1 hl) hj with e | e
    · have := (hg.same j k hj hk).1 e
      rw [(hld j k hj hk).2 this.1] at hnl; cases hnl
    · rw [hdn j hj]; exact e
theorem ToldG.down {t : Nat → Bool} {r : List Nat} (h : ToldG m U t r) : ∀ g, t g = true → ∀ x ∈ U g, t x = true := by
  induction h with
  | nil => intro g hg; cases hg
  | @snoc t r g _ hn ih =>
    intro g' hg' x hx
    obtain ⟨_, hr, _⟩ := nextG_some.1 hn
    have := (readyG_iff.1 hr).2
    have hup : ∀ y, t y = true → upd t g true y = true := fun y hy => by
      by_cases e : y = g
      · rw [e, upd_same]
      · rw [upd_other _ e]; exact hy
    by_cases e : g' = g
    · subst e; exact hup x (this x hx)
    · rw [upd_other _ e] at hg'
      exact hup x (ih g' hg' x hx)
theorem cls_grp (hld : LdIs n L ld) (hg : Grouped n L m inn) {i : Nat} (hi : i < n) : cls n ld i = grp n inn (inn i) := by
  unfold cls grp
  apply List.filter_congr
  intro k hk
  have hk := List.mem_range.1 hk
  rw [Bool.eq_iff_iff, hld.mutual_ hi hk, ← hg.same i k hi hk, beq_iff_eq]
  exact eq_comm
theorem ToldG.told (hld : LdIs n L ld) (hg : Grouped n L m inn) (hU : UsesG n L inn m U) {t : Nat → Bool} {r : List Nat} (h : ToldG m U t r) :
    ∃ dn, Told n ld dn (r.map (grp n inn)) ∧ ∀ k, k < n → dn k = t (inn k) := by
  induction h with
  | nil => exact ⟨_, .nil, fun _ _ => rfl⟩
  | @snoc t r g ht hn ih =>
    obtain ⟨dn, h1, h2⟩ := ih
    obtain ⟨hgm, hr, hlow⟩ := nextG_some.1 hn
    obtain ⟨j0, hj0, ej0⟩ := hg.some g hgm
    obtain ⟨i, hi0, ⟨hi, ei⟩, hi2⟩ := least_ex (P := fun j => j < n ∧ inn j = g) j0 ⟨hj0, ej0⟩
    have hlink := fun k (hk : k < n) => ready_link hld hg hU h2 (fun g _ => ht.down g) hk
    have hnx : next n ld dn = some i := by
      refine next_least.2 ⟨hi, by rw [hlink i hi, ei]; exact hr, fun x hx => ?_⟩
      have hxn : x < n := by omega
      rw [hlink x hxn]
      rcases Nat.lt_trichotomy (inn x) g with h9 | h9 | h9
      · exact hlow _ h9
      · exact absurd ⟨hxn, h9⟩ (hi2 x hx)
      · obtain ⟨j, hj, ej⟩ := hg.rise g (inn x) x h9 hxn rfl
        exact absurd ⟨by omega, ej⟩ (hi2 j (by omega))
    refine ⟨more ld dn i, ?_, fun k hk => ?_⟩
    · rw [List.map_append, List.map_singleton]
      have := Told.snoc h1 hnx
      rw [cls_grp hld hg hi, ei] at this
      exact this
    · unfold more
      rw [h2 k hk]
      by_cases e : inn k = g
      · rw [e, upd_same]
        have : mutB ld i k = true := (hld.mutual_ hi hk).2 ((hg.same i k hi hk).1 (by rw [ei, e]))
        rw [this, Bool.or_true]
      · rw [upd_other _ e]
        have : mutB ld i k = false := by
          cases e2 : mutB ld i k with
          | false => rfl
          | true => exact absurd ((hg.same i k hi hk).2 ((hld.mutual_ hi hk).1 e2)) (by rw [ei]; exact fun e3 => e e3.symm)
        rw [this, Bool.or_false]
/-- The groups' row, by their numbers, is the document's. -/
theorem ToldG.row (hld : LdIs n L ld) (hg : Grouped n L m inn) (hU : UsesG n L inn m U) {t : Nat → Bool} {r : List Nat} (h : ToldG m U t r) (hn : nextG m U t = none) :
    IsRow n ld (r.map (grp n inn)) := by
  obtain ⟨dn, h1, h2⟩ := h.told hld hg hU
  refine ⟨dn, h1, List.find?_eq_none.2 fun k hk => ?_⟩
  have hk := List.mem_range.1 hk
  rw [ready_link hld hg hU h2 (fun g _ => h.down g) hk, nextG_none.1 hn _ (hg.lt k hk)]
  simp
end

/-- What waits, and for whom. -/
def pend (m : Nat) (told : Nat → Bool) (wait : Nat → List Nat) : List Nat := ((List.range m).filter (fun o => !told o)).flatMap wait
theorem flat_add {l : List Nat} (hl : l.Nodup) {o : Nat} (ho : o ∈ l) (wait : Nat → List Nat) (g : Nat) : (l.flatMap (upd wait o (wait o ++ [g]))).Perm (g :: l.flatMap wait) := by
  induction l with
  | nil => cases ho
  | cons a r ih =>
    rw [List.nodup_cons] at hl
    rw [List.flatMap_cons, List.flatMap_cons]
    rcases List.mem_cons.1 ho with rfl | ho
    · rw [upd_same]
      have : r.flatMap (upd wait o (wait o ++ [g])) = r.flatMap wait := by
        have : ∀ s : List Nat, o ∉ s → s.flatMap (upd wait o (wait o ++ [g])) = s.flatMap wait := by
          intro s
          induction s with
          | nil => intro _; rfl
          | cons b s ihs =>
            intro hb
            rw [List.flatMap_cons, List.flatMap_cons, ihs (fun e => hb (List.mem_cons_of_mem _ e)), upd_other _ (fun e => hb (by rw [e]; exact List.mem_cons_self))]
        exact this r hl.1
      rw [this, List.append_assoc]
      exact List.perm_middle
    · rw [upd_other _ (fun e => hl.1 (by rw [e]; exact ho))]
      exact ((ih hl.2 ho).append_left (wait a)).trans List.perm_middle
theorem pend_add {m : Nat} {told : Nat → Bool} {o : Nat} (ho : o < m) (ht : told o = false) (wait : Nat → List Nat) (g : Nat) : (pend m told (upd wait o (wait o ++ [g]))).Perm (g :: pend m told wait) :=
  flat_add ((nodup_range m).filter _) (List.mem_filter.2 ⟨List.mem_range.2 ho, by simp [ht]⟩) wait g
theorem flat_drop {l : List Nat} (hl : l.Nodup) {told : Nat → Bool} {g : Nat} (hg : g ∈ l) (ht : told g = false) (wait : Nat → List Nat) : ((l.filter (fun o => !told o)).flatMap wait).Perm (wait g ++ (l.filter (fun o => !upd told g true o)).flatMap wait) := by
  induction l with
  | nil => cases hg
  | cons a r ih =>
    rw [List.nodup_cons] at hl
    rw [List.filter_cons, List.filter_cons]
    rcases List.mem_cons.1 hg with rfl | hg
    · rw [upd_same]
      have : r.filter (fun o => !upd told g true o) = r.filter (fun o => !told o) := by
        apply List.filter_congr
        intro x hx
        rw [upd_other _ (fun e => hl.1 (by rw [← e]; exact hx))]
      rw [this]
      simp [ht]
    · have hne : a ≠ g := fun e => hl.1 (by rw [e]; exact hg)
      rw [upd_other _ hne]
      cases told a with
      | true => simp; exact ih hl.2 hg
      | false =>
        simp only [Bool.not_false, if_true, List.flatMap_cons]
        refine ((ih hl.2 hg).append_left (wait a)).trans ?_
        rw [← List.append_assoc, ← List.append_assoc]
        exact List.perm_append_comm.append_right _
theorem pend_drop {m : Nat} {told : Nat → Bool} {g : Nat} (hg : g < m) (ht : told g = false) (wait : Nat → List Nat) : (pend m told wait).Perm (wait g ++ pend m (upd told g true) wait) :=
  flat_drop (nodup_range m) (List.mem_range.2 hg) ht wait

/-- What is known while groups are told: 'ask': whom to ask; 'wait': who waits for whom; 'left': whom each still is to ask for. -/
structure RowInv (m : Nat) (U : Nat → List Nat) (told : Nat → Bool) (ord ask : List Nat) (wait left : Nat → List Nat) : Prop where
  said : ToldG m U told ord
  all : (ask ++ (ord ++ pend m told wait)).Perm (List.range m)
  mem : ∀ g, told g = true ↔ g ∈ ord
  lefts : ∀ g, g < m → ∃ d, U g = d ++ left g ∧ ∀ x ∈ d, told x = true
  waits : ∀ o, o < m → told o = false → ∀ g ∈ wait o, o ∈ U g
section
variable {m : Nat} {U : Nat → List Nat} {told : Nat → Bool} {ord ask : List Nat} {wait left : Nat → List Nat}
theorem RowInv.start (m : Nat) (U : Nat → List Nat) {ask : List Nat} (ha : ask.Perm (List.range m)) : RowInv m U (fun _ => false) [] ask (fun _ => []) U := by
  have hp : pend m (fun _ => false) (fun _ => []) = [] := by unfold pend; rw [List.flatMap_eq_nil_iff]; simp
  exact ⟨.nil, by rw [hp]; simpa using ha, by simp, fun g _ => ⟨[], rfl, by simp⟩, by simp⟩
theorem RowInv.askok (h : RowInv m U told ord ask wait left) {g : Nat} (hg : g ∈ ask) : g < m ∧ told g = false := by
  have h1 := h.all.mem_iff.1 (List.mem_append_left _ hg)
  refine ⟨List.mem_range.1 h1, ?_⟩
  cases e : told g with
  | false => rfl
  | true =>
    have := (h.all.nodup_iff.2 (nodup_range m))
    rw [List.nodup_append] at this
    exact absurd rfl (this.2.2 g hg g (List.mem_append_left _ ((h.mem g).1 e)))
theorem RowInv.len (h : RowInv m U told ord ask wait left) : ask.length + (ord.length + (pend m told wait).length) = m := by
  have := h.all.length_eq
  simpa using this
/-- Whoever is in nobody's list is not ready. -/
theorem RowInv.notready (h : RowInv m U told ord ask wait left) {g : Nat} (hgm : g < m) (hg : g ∉ ask) : readyG U told g = false := by
  cases e : readyG U told g with
  | false => rfl
  | true =>
    obtain ⟨h1, h2⟩ := readyG_iff.1 e
    have := h.all.mem_iff.2 (List.mem_range.2 hgm)
    rcases List.mem_append.1 this with h3 | h3
    · exact absurd h3 hg
    · rcases List.mem_append.1 h3 with h3 | h3
      · rw [(h.mem g).2 h3] at h1; cases h1
      · unfold pend at h3
        obtain ⟨o, ho, hgo⟩ := List.mem_flatMap.1 h3
        obtain ⟨ho1, ho2⟩ := List.mem_filter.1 ho
        have ho2 : told o = false := by simpa using ho2
        have := h2 o (h.waits o (List.mem_range.1 ho1) ho2 g hgo)
        rw [ho2] at this; cases this
theorem RowInv.fin (h : RowInv m U told ord [] wait left) : nextG m U told = none := nextG_none.2 fun _ hg => h.notready hg (by simp)
/-- One that was asked whose time has not come waits. -/
theorem RowInv.later (h : RowInv m U told ord ask wait left) {ask' : List Nat} {g o : Nat} {l : List Nat} (ha : ask.Perm (g :: ask')) (hd : ∃ d, left g = d ++ o :: l ∧ ∀ x ∈ d, told x = true) (ho : o < m) (ht : told o = false) :
    RowInv m U told ord ask' (upd wait o (wait o ++ [g])) (upd left g (o :: l)) := by
  obtain ⟨d, hd1, hd2⟩ := hd
  have hgm := (h.askok (ha.mem_iff.2 List.mem_cons_self)).1
  obtain ⟨d0, hu, hd0⟩ := h.lefts g hgm
  have hog : o ∈ U g := by rw [hu, hd1]; simp
  refine ⟨h.said, ?_, h.mem, fun g' hg' => ?_, fun o' ho' ht' g' hg' => ?_⟩
  · refine List.Perm.trans ?_ h.all
    refine List.Perm.trans ?_ (ha.symm.append_right _)
    refine (((pend_add ho ht wait g).append_left ord).append_left ask').trans ?_
    refine (List.perm_middle.append_left ask').trans ?_
    exact List.perm_middle
  · by_cases e : g' = g
    · subst e
      rw [upd_same]
      exact ⟨d0 ++ d, by rw [hu, hd1]; simp, fun x hx => by
        rcases List.mem_append.1 hx with hx | hx
        · exact hd0 x hx
        · exact hd2 x hx⟩
    · rw [upd_other _ e]; exact h.lefts g' hg'
  · by_cases e : o' = o
    · subst e
      rw [upd_same] at hg'
      rcases List.mem_append.1 hg' with hg' | hg'
      · exact h.waits o' ho' ht' g' hg'
      · rw [List.mem_singleton.1 hg']; exact hog
    · rw [upd_other _ e] at hg'
      exact h.waits o' ho' ht' g' hg'
/-- One is told; who waited for it is to be asked. -/
theorem RowInv.now (h : RowInv m U told ord ask wait left) {ask' ask2 : List Nat} {g : Nat} (ha : ask.Perm (g :: ask')) (hleast : ∀ x ∈ ask, g ≤ x) (hd : ∀ x ∈ left g, told x = true) (ha2 : ask2.Perm (ask' ++ wait g)) :
    RowInv m U (upd told g true) (ord ++ [g]) ask2 wait (upd left g []) := by
  have hgask := ha.mem_iff.2 (List.mem_cons_self (a := g) (l := ask'))
  obtain ⟨hgm, hgt⟩ := h.askok hgask
  obtain ⟨d0, hu, hd0⟩ := h.lefts g hgm
  have hall : ∀ x ∈ U g, told x = true := by
    intro x hx
    rw [hu] at hx
    rcases List.mem_append.1 hx with hx | hx
    · exact hd0 x hx
    · exact hd x hx
  have hup : ∀ y, told y = true → upd told g true y = true := fun y hy => by
    by_cases e : y = g
    · rw [e, upd_same]
    · rw [upd_other _ e]; exact hy
  refine ⟨.snoc h.said (nextG_some.2 ⟨hgm, readyG_iff.2 ⟨hgt, hall⟩, fun x hx => h.notready (by omega) (fun e => by have := hleast x e; omega)⟩), ?_, fun y => ?_, fun g' hg' => ?_, fun o ho ht => ?_⟩
  · refine List.Perm.trans ?_ h.all
    refine (ha2.append_right _).trans (List.Perm.trans ?_ (ha.symm.append_right _))
    refine List.Perm.trans ?_ (((pend_drop hgm hgt wait).symm.append_left ord).append_left (g :: ask'))
    simp only [List.append_assoc, List.cons_append, List.nil_append]
    refine List.Perm.trans ?_ (List.perm_middle (l₁ := ask'))
    refine List.Perm.append_left ask' ?_
    refine List.Perm.trans ?_ (List.perm_middle (l₁ := ord))
    refine List.Perm.trans (List.perm_append_comm_assoc (wait g) ord (g :: pend m (upd told g true) wait)) ?_
    refine List.Perm.append_left ord ?_
    exact List.perm_middle
  · constructor
    · intro hy
      by_cases e : y = g
      · subst e; simp
      · rw [upd_other _ e] at hy
        exact List.mem_append_left _ ((h.mem y).1 hy)
    · intro hy
      rcases List.mem_append.1 hy with hy | hy
      · exact hup y ((h.mem y).2 hy)
      · rw [List.mem_singleton.1 hy, upd_same]
  · by_cases e : g' = g
    · subst e
      rw [upd_same]
      exact ⟨U g', by simp, fun x hx => hup x (hall x hx)⟩
    · rw [upd_other _ e]
      obtain ⟨d, a, b⟩ := h.lefts g' hg'
      exact ⟨d, a, fun x hx => hup x (b x hx)⟩
  · by_cases e : o = g
    · rw [e, upd_same] at ht; cases ht
    · rw [upd_other _ e] at ht
      exact h.waits o ho ht
end
end Go.Proofs.Ythmnghngcbkjpaa
