/- Rows of rows of numbers that a call owns. No conditions but those that each theorem names. -/
import Derived.Test.YthmnghngcbkjpaaMem
namespace Go.Proofs.Ythmnghngcbkjpaa
open Go.RowKit

def intV (z : Int) : Value := .int .i64 z
/-- A row of rows of numbers, in blocks of which F holds, no two rows in one block; 'vs': the rows' slices. -/
structure OMat (B : Nat) (F : Nat → Prop) (w : World) (v : Value) (M : List (List Int)) (vs : List Value) : Prop where
  own : w.ownsRow B 30 1 v M.length vs
  rows : ∀ j (h : j < vs.length) (h' : j < M.length), w.ownsRow B 3 1 vs[j] M[j].length (M[j].map intV)
  apart : ∀ i j (hi : i < vs.length) (hj : j < vs.length) (g : Nat), vs[i].ownBlock = some g → vs[j].ownBlock = some g → i = j
  foot : ∀ g, v.ownBlock = some g → F g
  foots : ∀ j (h : j < vs.length) g, vs[j].ownBlock = some g → F g
section
variable {B : Nat} {F : Nat → Prop} {w : World} {v : Value} {M : List (List Int)} {vs : List Value}
theorem OMat.len (h : OMat B F w v M vs) : vs.length = M.length := by have := h.own.1; omega
theorem OMat.keep (h : OMat B F w v M vs) {w' : World} (hb : ∀ b, F b → b < w.heap.size → w'.heap[b]? = w.heap[b]?) : OMat B F w' v M vs :=
  ⟨own_keep h.own (fun g hg => hb g (h.foot g hg) (h.own.lt g hg).2), fun j a b => own_keep (h.rows j a b) (fun g hg => hb g (h.foots j a g hg) ((h.rows j a b).lt g hg).2), h.apart, h.foot, h.foots⟩
theorem OMat.on (h : OMat B F w v M vs) {w' : World} (hb : Below w.heap.size w w') : OMat B F w' v M vs := h.keep (fun b _ hl => hb.block b hl)
theorem OMat.mono (h : OMat B F w v M vs) {F' : Nat → Prop} (hF : ∀ b, F b → b < w.heap.size → F' b) : OMat B F' w v M vs :=
  ⟨h.own, h.rows, h.apart, fun g hg => hF g (h.foot g hg) (h.own.lt g hg).2, fun j a g hg => hF g (h.foots j a g hg) ((h.rows j a (by have := h.len; omega)).lt g hg).2⟩
theorem OMat.lower (h : OMat B F w v M vs) {B' : Nat} (hB : B' ≤ B) : OMat B' F w v M vs := by
  have key : ∀ {e : TypeId} {s : Nat} {u : Value} {n : Nat} {xs : List Value}, w.ownsRow B e s u n xs → w.ownsRow B' e s u n xs := fun ho => by
    refine ⟨ho.1, ?_⟩
    rcases ho.2 with h9 | ⟨g, c, cur, a1, a2, r⟩
    · exact .inl h9
    · exact .inr ⟨g, c, cur, a1, by omega, r⟩
  exact ⟨key h.own, fun j a b => key (h.rows j a b), h.apart, h.foot, h.foots⟩
theorem omat_nil (B : Nat) (F : Nat → Prop) (w : World) : OMat B F w (.slice none 0 0) [] [] :=
  ⟨World.ownsRow_nil _ _ _ _, fun j h => by simp at h, fun i j h => by simp at h, fun g hg => by simp [Value.ownBlock] at hg, fun j h => by simp at h⟩
/-- m rows of nothing. -/
theorem omat_made {b m : Nat} (hb : w.heap[b]? = some (.cells (rowA m fun _ => .slice none 0 0) 30)) (hB : B ≤ b) (hm : m ≤ maxLen) (hF : F b) : OMat B F w (.slice (some ⟨b, 0, none⟩) m m) (List.replicate m []) (List.replicate m (.slice none 0 0)) := by
  refine ⟨⟨by simp, .inr ⟨b, m, _, by simp, hB, hb, by simp, hm, by simp [rowA_size], ?_⟩⟩, fun j a c => ?_, fun i j hi hj g hg => ?_, fun g hg => ?_, fun j a g hg => ?_⟩
  · unfold rowA
    exact List.ext_getElem (by simp) (fun i h1 h2 => by simp)
  · simp; exact World.ownsRow_nil _ _ _ _
  · simp [Value.ownBlock] at hg
  · simp [Value.ownBlock] at hg; rw [← hg]; exact hF
  · simp [Value.ownBlock] at hg
/-- The outer row's cells. -/
theorem OMat.at (h : OMat B F w v M vs) (j : Nat) (hj : j < M.length) : ∃ g c A c', v = .slice (some ⟨g, 0, none⟩) M.length c ∧ B ≤ g ∧ g < w.heap.size ∧ F g ∧ M.length ≤ c ∧ c ≤ maxLen ∧ vs[j]'(by have := h.len; omega) = .slice A M[j].length c' ∧ M[j].length ≤ c' ∧ c' ≤ maxLen ∧ w.cell? ⟨g, j, none⟩ = some (.slice A M[j].length c') ∧ (∀ k, w.frozen? ⟨g, k, none⟩ = false) := by
  have hl := h.len
  obtain ⟨g, c, rfl, h1, h2, h3, h4⟩ := own_some h.own (by omega)
  obtain ⟨A, c', e, h5, h6⟩ := own_form (h.rows j (by omega) hj)
  refine ⟨g, c, A, c', rfl, h1, h2, h.foot g rfl, h3, h4, e, h5, h6, ?_, fun k => h.own.frozenAt k⟩
  rw [h.own.cellAt j (by omega), List.getElem?_eq_getElem (by omega), e]
/-- It reads as a matrix. -/
theorem OMat.mat (h : OMat B F w v M vs) (hz : ∀ r ∈ M, ∀ z ∈ r, -9223372036854775808 ≤ z ∧ z ≤ 9223372036854775807) : MatAt (fun b => B ≤ b ∧ F b) w v M := by
  obtain ⟨A, c, rfl, h1, h2⟩ := own_form h.own
  refine ⟨A, c, rfl, h1, h2, ?_⟩
  rcases Nat.eq_zero_or_pos M.length with h0 | h0
  · exact .inl (List.eq_nil_of_length_eq_zero h0)
  · obtain ⟨g, c2, e, h3, h4, _, _⟩ := own_some h.own h0
    injection e with e1 e2 e3
    subst e1 e3
    refine .inr ⟨g, 0, rfl, ⟨h3, h.foot g rfl⟩, h4, fun i hi => ?_⟩
    have hl := h.len
    have hr := h.rows i (by omega) hi
    refine ⟨vs[i]'(by omega), by rw [Nat.zero_add, h.own.cellAt i (by omega), List.getElem?_eq_getElem], ?_⟩
    obtain ⟨A', c', e', h5, h6⟩ := own_form hr
    rw [e'] at hr ⊢
    refine ⟨A', c', rfl, h5, h6, hz _ (List.getElem_mem hi), ?_⟩
    rcases Nat.eq_zero_or_pos M[i].length with h7 | h7
    · exact .inl (List.eq_nil_of_length_eq_zero h7)
    · obtain ⟨g', c9, e9, b1, b2, _, _⟩ := own_some hr h7
      injection e9 with f1 f2 f3
      subst f1 f3
      refine .inr ⟨g', 0, rfl, ⟨b1, h.foots i (by omega) g' (by rw [e']; rfl)⟩, b2, fun k hk => ?_⟩
      rw [Nat.zero_add, hr.cellAt k (by omega), List.getElem?_map, List.getElem?_eq_getElem hk]; rfl
/-- One more row, of nothing. -/
theorem OMat.push (h : OMat B F w v M vs) {w' : World} {v' : Value} (ho : w'.ownsRow B 30 1 v' (M.length + 1) (vs ++ [.slice none 0 0])) (hg : w.grownBy w' v.ownBlock) (hat : v'.ownBlock = v.ownBlock ∨ ∃ k, v'.ownBlock = some k ∧ w.heap.size ≤ k) (hF : ∀ b, w.heap.size ≤ b → F b) :
    OMat B F w' v' (M ++ [[]]) (vs ++ [.slice none 0 0]) := by
  have hl := h.len
  refine ⟨by simpa using ho, fun j a b => ?_, fun i j hi hj q hq hq' => ?_, fun g hgv => ?_, fun j a g hgv => ?_⟩
  · by_cases hj : j < M.length
    · have h1 := h.rows j (by omega) hj
      rw [List.getElem_append_left (by omega), List.getElem_append_left hj]
      refine h1.kept hg ?_
      cases hv : (vs[j]'(by omega)).ownBlock with
      | none => exact .inl rfl
      | some q => exact .inr (fun e => own_apart h1 h.own (by decide) q hv e.symm)
    · have hj' : j = M.length := by simp at b; omega
      subst hj'
      have e1 : (vs ++ [Value.slice none 0 0])[M.length]'a = .slice none 0 0 := by simp [← hl]
      have e2 : (M ++ [[]])[M.length]'b = ([] : List Int) := by simp
      rw [e1, e2]; exact World.ownsRow_nil _ _ _ _
  · have key : ∀ k (hk : k < (vs ++ [Value.slice none 0 0]).length), (vs ++ [Value.slice none 0 0])[k].ownBlock = some q → k < vs.length := by
      intro k hk e
      rcases Nat.lt_or_ge k vs.length with h9 | h9
      · exact h9
      · have : k = vs.length := by simp at hk; omega
        subst this
        simp [Value.ownBlock] at e
    have i1 := key i hi hq
    have j1 := key j hj hq'
    rw [List.getElem_append_left i1] at hq
    rw [List.getElem_append_left j1] at hq'
    exact h.apart i j i1 j1 q hq hq'
  · rcases hat with e | ⟨k, e, hk⟩
    · rw [e] at hgv; exact h.foot g hgv
    · rw [e] at hgv; injection hgv with hgv; rw [← hgv]; exact hF k hk
  · rcases Nat.lt_or_ge j vs.length with h9 | h9
    · rw [List.getElem_append_left h9] at hgv; exact h.foots j h9 g hgv
    · have : j = vs.length := by simp at a; omega
      subst this
      simp [Value.ownBlock] at hgv
/-- A row is turned: 'u'', in its block or a new one. -/
theorem OMat.turn (h : OMat B F w v M vs) {w' : World} {g0 c : Nat} (hv : v = .slice (some ⟨g0, 0, none⟩) M.length c) (j : Nat) (hj : j < M.length) (hj' : j < vs.length) {u' : Value} {r : List Int} (ho : w'.ownsRow B 3 1 u' r.length (r.map intV)) (hg : w.grownBy w' vs[j].ownBlock) (hat : u'.ownBlock = vs[j].ownBlock ∨ u'.ownBlock = none ∨ ∃ k, u'.ownBlock = some k ∧ w.heap.size ≤ k) (hF : ∀ b, w.heap.size ≤ b → F b) :
    OMat B F (w'.setCell ⟨g0, j, none⟩ u') v (M.set j r) (vs.set j u') := by
  subst hv
  have hl := h.len
  have h1 := h.rows j hj' hj
  have own' : w'.ownsRow B 30 1 (.slice (some ⟨g0, 0, none⟩) M.length c) M.length vs := h.own.kept hg (.inr (fun e => own_apart h.own h1 (by decide) g0 rfl e.symm))
  have hne : u'.ownBlock ≠ some g0 := fun e => own_apart ho own' (by decide) g0 e rfl
  have hset : ∀ k, k ≠ g0 → (w'.setCell ⟨g0, j, none⟩ u').heap[k]? = w'.heap[k]? := fun k hk => Below.heap_setCell _ _ _ _ hk
  refine ⟨?_, fun i a b => ?_, fun i i' hi hi' q hq hq' => ?_, h.foot, fun i a g hgv => ?_⟩
  · rw [List.length_set]; exact own_set own' j u'
  · by_cases hij : i = j
    · subst hij
      rw [List.getElem_set_self, List.getElem_set_self]
      exact own_keep ho (fun g hgo => hset g (fun e => hne (by rw [← e]; exact hgo)))
    · rw [List.getElem_set_ne (fun e => hij e.symm), List.getElem_set_ne (fun e => hij e.symm)]
      have b1 := h.rows i (by simpa using a) (by simpa using b)
      have b2 : w'.ownsRow B 3 1 (vs[i]'(by simpa using a)) (M[i]'(by simpa using b)).length ((M[i]'(by simpa using b)).map intV) := by
        refine b1.kept hg ?_
        cases hv : (vs[i]'(by simpa using a)).ownBlock with
        | none => exact .inl rfl
        | some q => exact .inr (fun e => hij (h.apart i j (by simpa using a) hj' q hv e.symm))
      exact own_keep b2 (fun g hgo => hset g (fun e => own_apart b2 own' (by decide) g hgo (by rw [e]; rfl)))
  · have old : ∀ i (hi : i < vs.length), i ≠ j → vs[i].ownBlock = some q → u'.ownBlock ≠ some q := by
      intro i hi hij e e2
      rcases hat with e3 | e3 | ⟨q', e3, hq'⟩
      · exact hij (h.apart i j hi hj' q e (by rw [← e3]; exact e2))
      · rw [e3] at e2; cases e2
      · rw [e3] at e2; injection e2 with e2
        have := ((h.rows i hi (by omega)).lt q e).2
        omega
    by_cases hij : i = j
    · by_cases hij' : i' = j
      · omega
      · subst hij
        rw [List.getElem_set_self] at hq
        rw [List.getElem_set_ne (fun e => hij' e.symm)] at hq'
        exact absurd hq (old i' (by simpa using hi') hij' hq')
    · by_cases hij' : i' = j
      · subst hij'
        rw [List.getElem_set_self] at hq'
        rw [List.getElem_set_ne (fun e => hij e.symm)] at hq
        exact absurd hq' (old i (by simpa using hi) hij hq)
      · rw [List.getElem_set_ne (fun e => hij e.symm)] at hq
        rw [List.getElem_set_ne (fun e => hij' e.symm)] at hq'
        exact h.apart i i' (by simpa using hi) (by simpa using hi') q hq hq'
  · by_cases hij : i = j
    · subst hij
      rw [List.getElem_set_self] at hgv
      rcases hat with e3 | e3 | ⟨q', e3, hq'⟩
      · rw [e3] at hgv; exact h.foots i hj' g hgv
      · rw [e3] at hgv; cases hgv
      · rw [e3] at hgv; injection hgv with hgv; rw [← hgv]; exact hF q' hq'
    · rw [List.getElem_set_ne (fun e => hij e.symm)] at hgv
      exact h.foots i (by simpa using a) g hgv
/-- What a turn leaves of other blocks. -/
theorem OMat.turnB (h : OMat B F w v M vs) {w' : World} {g0 c : Nat} (hv : v = .slice (some ⟨g0, 0, none⟩) M.length c) (j : Nat) (hj' : j < vs.length) {u' : Value} (hg : w.grownBy w' vs[j].ownBlock) : ∀ b, b < w.heap.size → ¬ F b → (w'.setCell ⟨g0, j, none⟩ u').heap[b]? = w.heap[b]? := by
  intro b hb hF
  rw [Below.heap_setCell _ _ _ _ (fun e => hF (h.foot b (by rw [hv, e]; rfl)))]
  exact hg.block b hb (fun e => hF (h.foots j hj' b e.symm))
end
end Go.Proofs.Ythmnghngcbkjpaa
