/- Slices of slices of numbers, and as a call is handed them. No conditions but those that each theorem names. -/
import Derived.Test.YtomhojpoaicioaaOpen
import Derived.Deep.Matrix
namespace Go.Proofs.Ytomhojpoaicioaa
open Go.RowKit

/-- A slice of slices of numbers. -/
def MatAt (P : Nat → Prop) (w : World) (v : Value) (M : List (List Int)) : Prop :=
  ∃ A c, v = .slice A M.length c ∧ M.length ≤ c ∧ c ≤ maxLen ∧
    (M = [] ∨ ∃ b off, A = some ⟨b, off, none⟩ ∧ P b ∧ b < w.heap.size ∧ ∀ i (h : i < M.length), ∃ u, w.cell? ⟨b, off + i, none⟩ = some u ∧ IntsAt P w u M[i])
theorem MatAt.keep {P : Nat → Prop} {w w' : World} {v : Value} {M : List (List Int)} (h : MatAt P w v M) (hb : Keeps P w w') : MatAt P w' v M := by
  obtain ⟨A, c, e, h1, h2, hr⟩ := h
  refine ⟨A, c, e, h1, h2, ?_⟩
  rcases hr with hr | ⟨b, off, e, hp, hlt, hc⟩
  · exact .inl hr
  · refine .inr ⟨b, off, e, hp, Nat.lt_of_lt_of_le hlt hb.size, fun i hi => ?_⟩
    obtain ⟨u, a1, a2⟩ := hc i hi
    exact ⟨u, (hb.cell b _ hp hlt).trans a1, a2.keep hb⟩
theorem MatAt.on {P : Nat → Prop} {w w' : World} {v : Value} {M : List (List Int)} (h : MatAt P w v M) (hb : Below w.heap.size w w') : MatAt P w' v M := h.keep (.of_below hb)
theorem MatAt.mono {P Q : Nat → Prop} {w : World} {v : Value} {M : List (List Int)} (h : MatAt P w v M) (hpq : ∀ b, P b → Q b) : MatAt Q w v M := by
  obtain ⟨A, c, e, h1, h2, hr⟩ := h
  refine ⟨A, c, e, h1, h2, ?_⟩
  rcases hr with hr | ⟨b, off, e, hp, hlt, hc⟩
  · exact .inl hr
  · refine .inr ⟨b, off, e, hpq b hp, hlt, fun i hi => ?_⟩
    obtain ⟨u, a1, a2⟩ := hc i hi
    exact ⟨u, a1, a2.mono hpq⟩
theorem MatAt.form {P : Nat → Prop} {w : World} {v : Value} {M : List (List Int)} (h : MatAt P w v M) : ∃ A c, v = .slice A M.length c ∧ M.length ≤ c ∧ c ≤ maxLen := by
  obtain ⟨A, c, e, h1, h2, _⟩ := h
  exact ⟨A, c, e, h1, h2⟩
theorem MatAt.at {P : Nat → Prop} {w : World} {A : Option Addr} {n c : Nat} {M : List (List Int)} (h : MatAt P w (.slice A n c) M) (i : Nat) (hi : i < M.length) : ∃ b off A' c', A = some ⟨b, off, none⟩ ∧ b < w.heap.size ∧ w.cell? ⟨b, off + i, none⟩ = some (.slice A' M[i].length c') ∧ IntsAt P w (.slice A' M[i].length c') M[i] := by
  obtain ⟨A1, c1, e, _, _, hr⟩ := h
  injection e with e1 e2 e3
  rcases hr with hr | ⟨b, off, rfl, hp, hlt, hc⟩
  · rw [hr] at hi; simp at hi
  · obtain ⟨u, a1, a2⟩ := hc i hi
    have a2' := a2
    obtain ⟨A', c', rfl, _⟩ := a2
    exact ⟨b, off, A', c', e1, hlt, a1, a2'⟩
def SomeMat (w : World) (v : Value) : Prop := ∃ M, MatAt (fun b => b < w.heap.size) w v M
theorem mat_nil (W : World) : SomeMat W (.slice none 0 0) := ⟨[], none, 0, rfl, Nat.le_refl _, Nat.zero_le _, .inl rfl⟩
theorem mat_of_rows {W : World} {a : Addr} {len cap : Nat} {A : Nat → Option Addr} {L C : Nat → Nat} {Z : Nat → List Int} (hl : len ≤ cap) (hm : cap ≤ maxLen)
    (h : ∀ r, r < cap → W.cell? (a.add r) = some (.slice (A r) (L r) (C r)) ∧ L r ≤ C r ∧ C r ≤ maxLen ∧ (Z r).length = C r ∧ (∀ n ∈ Z r, (Lit.int .i64 n).wf = true) ∧ (A r = none → C r = 0) ∧
        ∀ a', A r = some a' → 0 ≤ a'.block ∧ ∀ c, c < C r → W.cell? (a'.add c) = some (.int .i64 ((Z r).getD c 0))) :
    SomeMat W (.slice (some a) len cap) := by
  have hrow : ∀ r, r < cap → IntsAt (fun b => b < W.heap.size) W (.slice (A r) (L r) (C r)) ((Z r).take (L r)) := by
    intro r hr
    obtain ⟨_, h1, h2, h3, h4, h5, h6⟩ := h r hr
    cases hA : A r with
    | none =>
      have hc := h5 hA
      have hz : Z r = [] := List.eq_nil_of_length_eq_zero (by omega)
      have hL : L r = 0 := by omega
      rw [hz, hL, hc]
      exact ⟨none, 0, rfl, Nat.le_refl _, Nat.zero_le _, fun z hz => absurd hz (by simp), .inl rfl⟩
    | some x => exact ints_of_cells x _ _ _ h1 h2 h3 (fun i hi => (h6 x hA).2 i (by omega)) h4
  refine ⟨(List.range len).map fun r => (Z r).take (L r), some a, cap, by simp, by simpa using hl, hm, ?_⟩
  rcases Nat.eq_zero_or_pos len with h0 | h0
  · subst h0; exact .inl rfl
  · obtain ⟨b, off, spot⟩ := a
    have hc := (h 0 (by omega)).1
    have hspot : spot = none := by simpa [Addr.add] using World.cell?_spot hc
    subst hspot
    have hb : b < W.heap.size := by
      have := World.block_lt_of_cell? W _ hc
      simpa [Addr.add] using this
    refine .inr ⟨b, off, rfl, hb, hb, fun i hi => ?_⟩
    simp only [List.length_map, List.length_range] at hi
    have h9 := (h i (by omega)).1
    rw [Go.WideShapes.add_plain] at h9
    refine ⟨_, h9, ?_⟩
    simpa using hrow i (by omega)
end Go.Proofs.Ytomhojpoaicioaa
