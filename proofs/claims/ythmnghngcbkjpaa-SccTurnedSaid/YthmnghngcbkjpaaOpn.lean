/- Slices of numbers, and slices of them, as a call is handed them. No conditions but those that each theorem names. -/
import Derived.Test.YthmnghngcbkjpaaRowW
import Derived.ProofKit
import Derived.OpenShut
import Derived.Deep.Matrix
namespace Go.Proofs.Ythmnghngcbkjpaa
open Go.RowKit

theorem ints_of_cells {W : World} (x : Addr) (len cap : Nat) (zs : List Int) (hl : len ≤ cap) (hm : cap ≤ maxLen) (hz : zs.length = cap) (hcell : ∀ i, i < zs.length → W.cell? (x.add i) = some (.int .i64 (zs.getD i 0))) (hwz : ∀ n ∈ zs, (Lit.int .i64 n).wf = true) :
    IntsAt (fun b => b < W.heap.size) W (.slice (some x) len cap) (zs.take len) := by
  have hlen : (zs.take len).length = len := by rw [List.length_take]; omega
  refine ⟨some x, cap, by rw [hlen], by omega, hm, fun z hz => ?_, ?_⟩
  · have := Go.bounds_i64 (hwz z (List.mem_of_mem_take hz)); omega
  · rcases Nat.eq_zero_or_pos len with h0 | h0
    · subst h0; exact .inl (by simp)
    · obtain ⟨b, off, spot⟩ := x
      have hc := hcell 0 (by omega)
      have hspot : spot = none := by simpa [Addr.add] using World.cell?_spot hc
      subst hspot
      have hb : b < W.heap.size := by
        have := World.block_lt_of_cell? W _ hc
        simpa [Addr.add] using this
      refine .inr ⟨b, off, rfl, hb, hb, fun i hi => ?_⟩
      have h9 := hcell i (by omega)
      rw [Go.WideShapes.add_plain] at h9
      rw [h9, List.getD_eq_getElem?_getD, List.getElem?_eq_getElem (by omega)]
      simp
theorem mat_nil (W : World) : SomeMat W (.slice none 0 0) := ⟨[], none, 0, rfl, Nat.le_refl _, Nat.zero_le _, .inl rfl⟩
theorem mat_of_rows {W : World} {a : Addr} {len cap : Nat} {A : Nat → Option Addr} {L C : Nat → Nat} {Z : Nat → List Int} (hl : len ≤ cap) (hm : cap ≤ maxLen)
    (h : ∀ r, r < cap → W.cell? (a.add r) = some (.slice (A r) (L r) (C r)) ∧ L r ≤ C r ∧ C r ≤ maxLen ∧ (Z r).length = C r ∧ (∀ n ∈ Z r, (Lit.int .i64 n).wf = true) ∧ (A r = none → C r = 0) ∧
        ∀ a', A r = some a' → 0 ≤ a'.block ∧ ∀ c, c < C r → W.cell? (a'.add c) = some (.int .i64 ((Z r).getD c 0))) :
    SomeMat W (.slice (some a) len cap) := by
  have hrow : ∀ r, r < cap → IntsAt (fun b => b < W.heap.size) W (.slice (A r) (L r) (C r)) ((Z r).take (L r)) := by
    intro r hr
    obtain ⟨_, h1, h2, h3, h4, h5, h6⟩ := h r hr
    cases hA : A r with
    | none =>
      have hc := h5 hA
      have hz : Z r = [] := List.eq_nil_of_length_eq_zero (by omega)
      have hL : L r = 0 := by omega
      rw [hz, hL, hc]
      exact ⟨none, 0, rfl, Nat.le_refl _, Nat.zero_le _, fun z hz => absurd hz (by simp), .inl rfl⟩
    | some x => exact ints_of_cells x _ _ _ h1 h2 h3 (fun i hi => (h6 x hA).2 i (by omega)) h4
  refine ⟨(List.range len).map fun r => (Z r).take (L r), some a, cap, by simp, by simpa using hl, hm, ?_⟩
  rcases Nat.eq_zero_or_pos len with h0 | h0
  · subst h0; exact .inl rfl
  · obtain ⟨b, off, spot⟩ := a
    have hc := (h 0 (by omega)).1
    have hspot : spot = none := by simpa [Addr.add] using World.cell?_spot hc
    subst hspot
    have hb : b < W.heap.size := by
      have := World.block_lt_of_cell? W _ hc
      simpa [Addr.add] using this
    refine .inr ⟨b, off, rfl, hb, hb, fun i hi => ?_⟩
    simp only [List.length_map, List.length_range] at hi
    have h9 := (h i (by omega)).1
    rw [Go.WideShapes.add_plain] at h9
    refine ⟨_, h9, ?_⟩
    simpa using hrow i (by omega)
end Go.Proofs.Ythmnghngcbkjpaa
