/- What lies in memory while kinds.Read runs: a row of rows of kinds. No conditions but those that each theorem names. -/
import Derived.Test.YtomhojpoaicioaaReadM
import Derived.Test.YtomhojpoaicioaaMade
import Derived.Test.YtomhojpoaicioaaBuild
import Derived.OneCell
import Derived.Deep.AppendLies
namespace Go.Proofs.Ytomhojpoaicioaa
open Go.RowKit

theorem own_set {w : World} {base : Nat} {e : TypeId} {g cap n : Nat} {xs : List Value} (h : w.ownsRow base e 1 (.slice (some ⟨g, 0, none⟩) n cap) n xs) (j : Nat) (_hj : j < n) (u : Value) :
    (w.setCell ⟨g, j, none⟩ u).ownsRow base e 1 (.slice (some ⟨g, 0, none⟩) n cap) n (xs.set j u) := by
  obtain ⟨h1, h2⟩ := h
  refine ⟨by rw [List.length_set]; exact h1, ?_⟩
  rcases h2 with ⟨h2, _⟩ | ⟨g', cap', cur, hv, hg, hh, a1, a2, a3, a4⟩
  · cases h2
  · injection hv with e1 _ e2
    injection e1 with e1
    injection e1 with e1
    subst e1 e2
    refine .inr ⟨g, cap, cur.set! j u, rfl, hg, ?_, a1, a2, by simpa using a3, ?_⟩
    · have hlt : g < w.heap.size := lt_of_block hh
      have h' : w.heap[g] = .cells cur e (0, 0) := by simpa [Array.getElem?_eq_getElem hlt] using hh
      show (w.heap.modify g _)[g]? = _
      rw [Array.getElem?_eq_getElem (by simpa using hlt), Array.getElem_modify_self, h']
      rfl
    · rw [← a4]
      simp [List.take_set]
theorem own_shorter {w : World} {base : Nat} {e : TypeId} {g cap n : Nat} {xs : List Value} (h : w.ownsRow base e 1 (.slice (some ⟨g, 0, none⟩) n cap) n xs) (m : Nat) (hm : m ≤ n) :
    w.ownsRow base e 1 (.slice (some ⟨g, 0, none⟩) m cap) m (xs.take m) := by
  obtain ⟨h1, h2⟩ := h
  refine ⟨by rw [List.length_take, h1]; omega, ?_⟩
  rcases h2 with ⟨h2, _⟩ | ⟨g', cap', cur, hv, hg, hh, a1, a2, a3, a4⟩
  · cases h2
  · injection hv with e1 _ e2
    injection e1 with e1
    injection e1 with e1
    subst e1 e2
    refine .inr ⟨g, cap, cur, rfl, hg, hh, by omega, a2, a3, ?_⟩
    rw [← a4, List.take_take]
    congr 1
    omega
/-- Rows of different kinds lie in different blocks. -/
theorem own_apart {w : World} {base base' : Nat} {e e' : TypeId} {n n' s s' : Nat} {xs xs' : List Value} {v v' : Value} (h : w.ownsRow base e s v n xs) (h' : w.ownsRow base' e' s' v' n' xs') (hne : e ≠ e') (g : Nat) (hg : v.ownBlock = some g) : v'.ownBlock ≠ some g := by
  intro hg'
  rcases h.2 with ⟨rfl, _⟩ | ⟨a, c, cur, rfl, _, hh, _⟩
  · cases hg
  · rcases h'.2 with ⟨rfl, _⟩ | ⟨a', c', cur', rfl, _, hh', _⟩
    · cases hg'
    · simp only [Value.ownBlock, Option.some.injEq] at hg hg'
      subst hg
      rw [hg', hh] at hh'
      injection hh' with hh'
      injection hh' with _ hh' _
      exact hne hh'
/-- Blocks of what is done: none of the rows that are begun. -/
def Fin (base g0 : Nat) (rvs : List Value) (b : Nat) : Prop := base ≤ b ∧ b ≠ g0 ∧ ∀ v ∈ rvs, v.ownBlock ≠ some b
/-- A row of rows of kinds. -/
structure RSt (base : Nat) (w : World) (g0 cap : Nat) (ls : List (List K)) (rvs : List Value) : Prop where
  own : w.ownsRow base 23 1 (.slice (some ⟨g0, 0, none⟩) ls.length cap) ls.length rvs
  rows : ∀ j (h : j < ls.length) (h' : j < rvs.length), ∃ us, w.ownsRow base 25 1 rvs[j] us.length us ∧ KsAt (Fin base g0 rvs) w ls[j] us
  apart : ∀ i j (hi : i < rvs.length) (hj : j < rvs.length) (g : Nat), rvs[i].ownBlock = some g → rvs[j].ownBlock = some g → i = j
theorem RSt.len {base : Nat} {w : World} {g0 cap : Nat} {ls : List (List K)} {rvs : List Value} (h : RSt base w g0 cap ls rvs) : rvs.length = ls.length := by have := h.own.1; omega
theorem RSt.g0lt {base : Nat} {w : World} {g0 cap : Nat} {ls : List (List K)} {rvs : List Value} (h : RSt base w g0 cap ls rvs) : base ≤ g0 ∧ g0 < w.heap.size := h.own.lt g0 rfl
theorem RSt.cell {base : Nat} {w : World} {g0 cap : Nat} {ls : List (List K)} {rvs : List Value} (h : RSt base w g0 cap ls rvs) (j : Nat) (hj : j < rvs.length) : w.cell? ⟨g0, j, none⟩ = some rvs[j] := by
  rw [h.own.cellAt j (by have := h.len; omega), List.getElem?_eq_getElem hj]
theorem RSt.free {base : Nat} {w : World} {g0 cap : Nat} {ls : List (List K)} {rvs : List Value} (h : RSt base w g0 cap ls rvs) (j : Nat) : w.frozen? ⟨g0, j, none⟩ = false := by
  rcases h.own.2 with ⟨h2, _⟩ | ⟨g', cap', cur, hv, _, hh, _⟩
  · cases h2
  · injection hv with e1
    injection e1 with e1
    injection e1 with e1
    subst e1
    simp [World.frozen?, hh]
theorem RSt.on {base : Nat} {w w' : World} {g0 cap : Nat} {ls : List (List K)} {rvs : List Value} (h : RSt base w g0 cap ls rvs) (hb : Below w.heap.size w w') : RSt base w' g0 cap ls rvs :=
  ⟨ownsRow_below' h.own hb, fun j a b => by
    obtain ⟨us, h1, h2⟩ := h.rows j a b
    exact ⟨us, ownsRow_below' h1 hb, h2.keep (.of_below hb)⟩, h.apart⟩
/-- The last one is done: it is a kind, and the others are begun still. -/
theorem RSt.pop {base : Nat} {w : World} {g0 cap : Nat} {ls : List (List K)} {rvs : List Value} {l : List K} {v : Value} (h : RSt base w g0 cap (ls ++ [l]) (rvs ++ [v])) :
    RSt base w g0 cap ls rvs ∧ KAt (Fin base g0 rvs) w (.mk l) v := by
  have hl : rvs.length = ls.length := by have := h.len; simp at this; exact this
  have hF : ∀ b, Fin base g0 (rvs ++ [v]) b → Fin base g0 rvs b := fun b hb => ⟨hb.1, hb.2.1, fun u hu => hb.2.2 u (List.mem_append_left _ hu)⟩
  refine ⟨⟨?_, fun j a b => ?_, fun i j hi hj g => ?_⟩, ?_⟩
  · have h9 := own_shorter h.own ls.length (by simp)
    rw [List.take_left' hl] at h9
    exact h9
  · obtain ⟨us, h1, h2⟩ := h.rows j (by simp; omega) (by simp; omega)
    rw [List.getElem_append_left b] at h1
    rw [List.getElem_append_left a] at h2
    exact ⟨us, h1, h2.mono hF⟩
  · have h9 := h.apart i j (by simp; omega) (by simp; omega) g
    rw [List.getElem_append_left hi, List.getElem_append_left hj] at h9
    exact h9
  · obtain ⟨us, h1, h2⟩ := h.rows ls.length (by simp) (by simp; omega)
    have ev : (rvs ++ [v])[ls.length]'(by simp; omega) = v := by simp [← hl]
    have el : (ls ++ [l])[ls.length]'(by simp) = l := by simp
    rw [ev] at h1
    rw [el] at h2
    have hg0 : ∀ g, v.ownBlock = some g → Fin base g0 rvs g := by
      intro g hg
      refine ⟨(h1.lt g hg).1, fun e => ?_, fun u hu => fun e => ?_⟩
      · subst e
        exact own_apart h.own h1 (by decide) g rfl hg
      · obtain ⟨i, hi, rfl⟩ := List.getElem_of_mem hu
        have h9 := h.apart i ls.length (by simp; omega) (by simp; omega) g (by rw [List.getElem_append_left hi]; exact e) (by rw [ev]; exact hg)
        omega
    have hl2 := h2.1
    rcases h1.2 with ⟨hv, h0⟩ | ⟨g, cp, cur, hv, hg, hh, hcap, hcm, _, _⟩
    · have hks : l = [] := List.eq_nil_of_length_eq_zero (by omega)
      subst hks hv
      exact kat_nil _ _ _ _ (Nat.zero_le _)
    · subst hv
      rw [hl2]
      refine .intro l _ cp us (by omega) hcm hl2 (.inr ⟨g, 0, rfl, hg0 g rfl, lt_of_block hh, fun i hi => ?_⟩) (fun i hi => ((h2.2 i hi (by omega)).mono hF))
      rw [Nat.zero_add, h1.cellAt i (by omega)]; simp [hi]
/-- One more is begun. -/
theorem RSt.push {base : Nat} {w w' : World} {g0 cap g cap' : Nat} {ls : List (List K)} {rvs : List Value} (h : RSt base w g0 cap ls rvs)
    (ho : w'.ownsRow base 23 1 (.slice (some ⟨g, 0, none⟩) (ls.length + 1) cap') (ls.length + 1) (rvs ++ [.slice none 0 0])) (hg : w.grownBy w' (some g0)) (hat : g0 = g ∨ w.heap.size ≤ g) :
    RSt base w' g cap' (ls ++ [[]]) (rvs ++ [.slice none 0 0]) := by
  have hl := h.len
  have hF : ∀ b, (Fin base g0 rvs b ∧ b < w.heap.size) → Fin base g (rvs ++ [.slice none 0 0]) b := fun b hb => ⟨hb.1.1, by
    rcases hat with rfl | h9
    · exact hb.1.2.1
    · have := hb.2; omega, fun u hu => by
      rcases List.mem_append.1 hu with hu | hu
      · exact hb.1.2.2 u hu
      · simp at hu; subst hu; simp [Value.ownBlock]⟩
  refine ⟨by simpa using ho, fun j a b => ?_, fun i j hi hj q hq hq' => ?_⟩
  · by_cases hj : j < ls.length
    · obtain ⟨us, h1, h2⟩ := h.rows j hj (by omega)
      rw [List.getElem_append_left (by omega), List.getElem_append_left hj]
      refine ⟨us, h1.kept hg ?_, ((h2.bound.keep (keeps_grown hg (fun b hb => ?_))).mono hF)⟩
      · cases hv : (rvs[j]'(by omega)).ownBlock with
        | none => exact .inl rfl
        | some q => exact .inr (fun e => by injection e with e; subst e; exact own_apart h.own h1 (by decide) q rfl hv)
      · exact fun e => hb.1.2.1 (by injection e with e)
    · have hj' : j = ls.length := by simp at a; omega
      subst hj'
      refine ⟨[], ?_, ?_⟩
      · have e : (rvs ++ [Value.slice none 0 0])[ls.length]'b = .slice none 0 0 := by simp [← hl]
        rw [e]; exact World.ownsRow_nil _ _ _ _
      · have e : (ls ++ [[]])[ls.length]'a = ([] : List K) := by simp
        rw [e]; exact ⟨rfl, fun i hi => absurd hi (by simp)⟩
  · have key : ∀ k (hk : k < (rvs ++ [Value.slice none 0 0]).length), (rvs ++ [Value.slice none 0 0])[k].ownBlock = some q → k < rvs.length := by
      intro k hk e
      rcases Nat.lt_or_ge k rvs.length with h9 | h9
      · exact h9
      · have : k = rvs.length := by simp at hk; omega
        subst this
        simp [Value.ownBlock] at e
    have i1 := key i hi hq
    have j1 := key j hj hq'
    rw [List.getElem_append_left i1] at hq
    rw [List.getElem_append_left j1] at hq'
    exact h.apart i j i1 j1 q hq hq'
/-- One of the rows that are begun gets one more. -/
theorem RSt.upd {base : Nat} {w w' : World} {g0 cap : Nat} {ls : List (List K)} {rvs : List Value} (h : RSt base w g0 cap ls rvs) (j : Nat) (hj : j < ls.length) (hj' : j < rvs.length) {k : K} {kv v' : Value} {us : List Value}
    (h1 : w.ownsRow base 25 1 rvs[j] us.length us) (h2 : KsAt (Fin base g0 rvs) w ls[j] us) (hk : KAt (Fin base g0 rvs) w k kv)
    (ho : w'.ownsRow base 25 1 v' (us.length + 1) (us ++ [kv])) (hg : w.grownBy w' rvs[j].ownBlock) (hat : v'.ownBlock = rvs[j].ownBlock ∨ ∃ q, v'.ownBlock = some q ∧ w.heap.size ≤ q) :
    RSt base (w'.setCell ⟨g0, j, none⟩ v') g0 cap (ls.set j (ls[j] ++ [k])) (rvs.set j v') := by
  have hl := h.len
  have g0lt := h.g0lt
  have hF : ∀ b, (Fin base g0 rvs b ∧ b < w.heap.size) → Fin base g0 (rvs.set j v') b := fun b hb => ⟨hb.1.1, hb.1.2.1, fun u hu => by
    rcases List.mem_or_eq_of_mem_set hu with hu | rfl
    · exact hb.1.2.2 u hu
    · rcases hat with e | ⟨q, e, hq⟩
      · rw [e]; exact hb.1.2.2 _ (List.getElem_mem hj')
      · rw [e]; intro e2; injection e2 with e2; have := hb.2; omega⟩
  have hkp : Keeps (fun b => Fin base g0 rvs b ∧ b < w.heap.size) w (w'.setCell ⟨g0, j, none⟩ v') := (keeps_grown hg (fun b hb e => hb.1.2.2 _ (List.getElem_mem hj') e.symm)).trans (.setCell (fun e => e.1.2.1 rfl) _)
  have own' : w'.ownsRow base 23 1 (.slice (some ⟨g0, 0, none⟩) ls.length cap) ls.length rvs := h.own.kept hg (.inr (fun e => own_apart h.own h1 (by decide) g0 rfl e.symm))
  refine ⟨by rw [List.length_set]; exact own_set own' j (by omega) v', fun i a b => ?_, fun i i' hi hi' q hq hq' => ?_⟩
  · by_cases hij : i = j
    · subst hij
      refine ⟨us ++ [kv], ?_, ?_⟩
      · rw [List.getElem_set_self, List.length_append]
        exact ownsRow_setCell_other ho (fun e => own_apart ho own' (by decide) g0 e rfl) _
      · rw [List.getElem_set_self]
        exact ((h2.bound.keep hkp).mono hF).snoc ((hk.bound.keep hkp).mono hF)
    · obtain ⟨vs, b1, b2⟩ := h.rows i (by simpa using a) (by simpa using b)
      refine ⟨vs, ?_, ?_⟩
      · rw [List.getElem_set_ne (fun e => hij e.symm)]
        refine ownsRow_setCell_other (b1.kept hg ?_) (fun e => own_apart b1 h.own (by decide) g0 e rfl) _
        cases hv : (rvs[i]'(by simpa using b)).ownBlock with
        | none => exact .inl rfl
        | some q => exact .inr (fun e => hij (h.apart i j (by simpa using b) hj' q hv e.symm))
      · rw [List.getElem_set_ne (fun e => hij e.symm)]
        exact (b2.bound.keep hkp).mono hF
  · have old : ∀ i (hi : i < rvs.length), i ≠ j → rvs[i].ownBlock = some q → v'.ownBlock ≠ some q := by
      intro i hi hij e e2
      rcases hat with e3 | ⟨q', e3, hq'⟩
      · exact hij (h.apart i j hi hj' q e (by rw [← e3]; exact e2))
      · rw [e3] at e2; injection e2 with e2
        obtain ⟨vs, b1, _⟩ := h.rows i (by omega) hi
        have := (b1.lt q e).2
        omega
    by_cases hij : i = j
    · by_cases hij' : i' = j
      · omega
      · subst hij
        rw [List.getElem_set_self] at hq
        rw [List.getElem_set_ne (fun e => hij' e.symm)] at hq'
        exact absurd hq (old i' (by simpa using hi') hij' hq')
    · by_cases hij' : i' = j
      · subst hij'
        rw [List.getElem_set_self] at hq'
        rw [List.getElem_set_ne (fun e => hij e.symm)] at hq
        exact absurd hq' (old i (by simpa using hi) hij hq)
      · rw [List.getElem_set_ne (fun e => hij e.symm)] at hq
        rw [List.getElem_set_ne (fun e => hij' e.symm)] at hq'
        exact h.apart i i' (by simpa using hi) (by simpa using hi') q hq hq'
/-- What is done stays so while one of the rows gets one more. -/
theorem RSt.updK {base : Nat} {w w' : World} {g0 : Nat} {rvs : List Value} (j : Nat) (hj' : j < rvs.length) {k2 : K} {kv2 v' : Value}
    (hk : KAt (Fin base g0 rvs) w k2 kv2) (hg : w.grownBy w' rvs[j].ownBlock) (hat : v'.ownBlock = rvs[j].ownBlock ∨ ∃ q, v'.ownBlock = some q ∧ w.heap.size ≤ q) :
    KAt (Fin base g0 (rvs.set j v')) (w'.setCell ⟨g0, j, none⟩ v') k2 kv2 := by
  have hF : ∀ b, (Fin base g0 rvs b ∧ b < w.heap.size) → Fin base g0 (rvs.set j v') b := fun b hb => ⟨hb.1.1, hb.1.2.1, fun u hu => by
    rcases List.mem_or_eq_of_mem_set hu with hu | rfl
    · exact hb.1.2.2 u hu
    · rcases hat with e | ⟨q, e, hq⟩
      · rw [e]; exact hb.1.2.2 _ (List.getElem_mem hj')
      · rw [e]; intro e2; injection e2 with e2; have := hb.2; omega⟩
  have hkp : Keeps (fun b => Fin base g0 rvs b ∧ b < w.heap.size) w (w'.setCell ⟨g0, j, none⟩ v') := (keeps_grown hg (fun b hb e => hb.1.2.2 _ (List.getElem_mem hj') e.symm)).trans (.setCell (fun e => e.1.2.1 rfl) _)
  exact (hk.bound.keep hkp).mono hF
/-- A row's last one becomes another one. -/
theorem RSt.last {base : Nat} {w : World} {g0 cap g cp : Nat} {ls : List (List K)} {rvs : List Value} (h : RSt base w g0 cap ls rvs) (j : Nat) (hj : j < ls.length) (hj' : j < rvs.length) {l : List K} {k0 k : K} {kv : Value}
    (hl : ls[j] = l ++ [k0]) (hv : rvs[j] = .slice (some ⟨g, 0, none⟩) (l.length + 1) cp) (hk : KAt (Fin base g0 rvs) w k kv) :
    RSt base (w.setCell ⟨g, l.length, none⟩ kv) g0 cap (ls.set j (l ++ [k])) rvs := by
  have hll := h.len
  obtain ⟨us, h1, h2⟩ := h.rows j hj hj'
  rw [hv] at h1
  have hne : g0 ≠ g := fun e => own_apart h.own h1 (by decide) g0 rfl (by rw [e]; rfl)
  have hnF : ¬ Fin base g0 rvs g := fun e => e.2.2 _ (List.getElem_mem hj') (by rw [hv]; rfl)
  have hkp : Keeps (Fin base g0 rvs) w (w.setCell ⟨g, l.length, none⟩ kv) := .setCell hnF _
  refine ⟨by rw [List.length_set]; exact ownsRow_setCell_other h.own (fun e => hne (by simpa [Value.ownBlock] using e)) _, fun i a b => ?_, h.apart⟩
  by_cases hij : i = j
  · subst hij
    have e1 : us.length = l.length + 1 := by rw [h2.1, hl]; simp
    refine ⟨us.set l.length kv, ?_, ?_⟩
    · rw [hv, List.length_set, e1]
      rw [e1] at h1
      exact own_set h1 l.length (by omega) kv
    · rw [List.getElem_set_self]
      refine ⟨by simp [e1], fun x hx hx' => ?_⟩
      by_cases hxl : x = l.length
      · subst hxl
        rw [List.getElem_set_self]
        simp only [List.getElem_append_right (Nat.le_refl _), Nat.sub_self, List.getElem_cons_zero]
        exact hk.keep hkp
      · have hx2 : x < l.length := by simp at hx; omega
        rw [List.getElem_set_ne (fun e => hxl e.symm), List.getElem_append_left hx2]
        have h9 := (h2.2 x (by rw [hl]; simp; omega) (by omega)).keep hkp
        simp only [hl, List.getElem_append_left hx2] at h9
        exact h9
  · obtain ⟨vs, b1, b2⟩ := h.rows i (by simpa using a) b
    refine ⟨vs, ownsRow_setCell_other b1 (fun e => hij (h.apart i j b hj' g e (by rw [hv]; rfl))) _, ?_⟩
    rw [List.getElem_set_ne (fun e => hij e.symm)]
    exact b2.keep hkp
end Go.Proofs.Ytomhojpoaicioaa
