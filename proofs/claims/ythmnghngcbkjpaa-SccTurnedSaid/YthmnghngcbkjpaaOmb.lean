/- More numbers behind a row of a row of rows that a call owns. No conditions but those that each theorem names. -/
import Derived.Test.YthmnghngcbkjpaaOMa
namespace Go.Proofs.Ythmnghngcbkjpaa
open Go.RowKit
section
variable {B : Nat} {F : Nat → Prop} {w : World} {v : Value} {M : List (List Int)} {vs : List Value}
/-- W: the world in which the new numbers lie; w3: that behind the append; the store is still to come. -/
theorem OMat.add (h : OMat B F w v M vs) (hF : ∀ b, w.heap.size ≤ b → F b) (j : Nat) (hj : j < M.length) :
    ∃ g c A c', v = .slice (some ⟨g, 0, none⟩) M.length c ∧ M.length ≤ maxLen ∧ M[j].length ≤ c' ∧ c' ≤ maxLen ∧ w.cell? ⟨g, j, none⟩ = some (.slice A M[j].length c') ∧ ∀ W, Below w.heap.size w W → W.cell? ⟨g, j, none⟩ = some (.slice A M[j].length c') ∧ W.ownsRow B 3 1 (.slice A M[j].length c') M[j].length (M[j].map intV) ∧
      ∀ (xs : List Int) gg cap w3, w3.ownsRow B 3 1 (.slice (some ⟨gg, 0, none⟩) (M[j].length + xs.length) cap) (M[j].length + xs.length) (M[j].map intV ++ xs.map intV) → W.grownBy w3 (Value.slice A M[j].length c').ownBlock → ((Value.slice A M[j].length c').ownBlock = some gg ∨ gg = W.heap.size) →
        w3.cell? ⟨g, j, none⟩ = some (.slice A M[j].length c') ∧ w3.frozen? ⟨g, j, none⟩ = false ∧
        (∃ vs', OMat B F (w3.setCell ⟨g, j, none⟩ (.slice (some ⟨gg, 0, none⟩) (M[j].length + xs.length) cap)) v (M.set j (M[j] ++ xs)) vs') ∧
        (∀ b, b < w.heap.size → ¬ F b → (w3.setCell ⟨g, j, none⟩ (.slice (some ⟨gg, 0, none⟩) (M[j].length + xs.length) cap)).heap[b]? = w.heap[b]?) ∧
        (∀ a, B ≤ w.heap.size → Below B a w → Below B a (w3.setCell ⟨g, j, none⟩ (.slice (some ⟨gg, 0, none⟩) (M[j].length + xs.length) cap))) ∧ w.heap.size ≤ w3.heap.size := by
  obtain ⟨g, c, A, c', rfl, hB, hg, hFg, hc1, hc2, hvs, hd1, hd2, hcell, hfree⟩ := h.at j hj
  have hl := h.len
  have hvl : j < vs.length := by omega
  refine ⟨g, c, A, c', rfl, by omega, hd1, hd2, hcell, fun W hW => ?_⟩
  have hm := h.on hW
  have hrow := hm.rows j hvl hj
  have hvsW := hvs
  rw [hvs] at hrow
  refine ⟨(World.cell?_of_block (a := ⟨g, j, none⟩) (hW.block _ hg)).trans hcell, hrow, fun xs gg cap w3 h1 h2 h3 => ?_⟩
  have hg2 : W.grownBy w3 vs[j].ownBlock := by rw [hvs]; exact h2
  have hat2 : (Value.slice (some ⟨gg, 0, none⟩) (M[j].length + xs.length) cap).ownBlock = vs[j].ownBlock ∨ (Value.slice (some ⟨gg, 0, none⟩) (M[j].length + xs.length) cap).ownBlock = none ∨ ∃ q, (Value.slice (some ⟨gg, 0, none⟩) (M[j].length + xs.length) cap).ownBlock = some q ∧ W.heap.size ≤ q := by
    rcases h3 with h3 | h3
    · rw [hvs]; exact .inl h3.symm
    · exact .inr (.inr ⟨gg, rfl, by omega⟩)
  have hneb : vs[j].ownBlock ≠ some g := fun e => own_apart (h.rows j hvl hj) h.own (by decide) _ e rfl
  have hbl : w3.heap[g]? = w.heap[g]? := (hg2.block _ (by have := hW.size; omega) (fun e => hneb e.symm)).trans (hW.block _ hg)
  have ht := hm.turn (w' := w3) (g0 := g) (c := c) rfl j hj hvl (u' := .slice (some ⟨gg, 0, none⟩) (M[j].length + xs.length) cap) (r := M[j] ++ xs) (by rw [List.length_append, List.map_append]; exact h1) hg2 hat2 (fun b hb => hF b (by have := hW.size; omega))
  have htB := hm.turnB (w' := w3) (g0 := g) (c := c) rfl j hvl (u' := .slice (some ⟨gg, 0, none⟩) (M[j].length + xs.length) cap) hg2
  refine ⟨(World.cell?_of_block (a := ⟨g, j, none⟩) hbl).trans hcell, (World.frozen?_of_block (a := ⟨g, j, none⟩) hbl).trans (hfree j), ⟨_, ht⟩, fun b hb hF => (htB b (by have := hW.size; omega) hF).trans (hW.block b hb), fun a hBw hba => ?_, by have := hW.size; have := h2.size; omega⟩
  exact ((hba.trans (hW.mono hBw)).grown h2 (by have := hW.size; omega) (fun q hq => (hrow.lt q hq).1)).setCell hB _
end
end Go.Proofs.Ythmnghngcbkjpaa
