/- Plain mathematics of KindsRow (chapter 3): terms made of numbers are small, and rows of equations that are asked till one is refused. No program, no world. -/
import Derived.Test.YtomhojpoaicioaaTerms
namespace Go.Proofs.Ytomhojpoaicioaa
open Tm

/-- A term of the variables 1 to 5, of so many arrows. -/
structure Little (g : Nat) (t : Tm) : Prop where
  zero : t.occ 0 = false
  vars : VarsTo 5 t
  arr : arrN t ≤ g
theorem little_star (g : Nat) : Little g .star := ⟨rfl, fun m h => by simp [occ] at h, Nat.zero_le _⟩
theorem little_var {z : Int} (h : aroundI z 9 < 5) (g : Nat) : Little g (.var (1 + aroundI z 9).toNat) := by
  have hb := (aroundI_bd z 9 (by omega)).1
  refine ⟨by simp only [occ]; rw [beq_eq_false_iff_ne]; omega, fun m hm => ?_, Nat.zero_le _⟩
  simp only [occ, beq_iff_eq] at hm
  omega
theorem termZ_little : ∀ (f : Nat) (zs : List Int), Little (2 ^ f - 1) (termZ f zs).1
  | f, [] => by
    have : termZ f [] = (.star, []) := by cases f <;> rfl
    rw [this]; exact little_star _
  | 0, z :: l => by
    unfold termZ
    show Little _ (if aroundI z 9 < 5 then _ else _)
    split
    · rename_i h; exact little_var h _
    · exact little_star _
  | f + 1, z :: l => by
    unfold termZ
    split
    · rename_i h; exact little_var h _
    · split
      · exact little_star _
      · have h1 := termZ_little f l
        have h2 := termZ_little f (termZ f l).2
        have hp : 1 ≤ 2 ^ f := Nat.one_le_two_pow
        refine ⟨?_, fun m hm => ?_, ?_⟩
        · show ((termZ f l).1.occ 0 || (termZ f (termZ f l).2).1.occ 0) = false
          rw [h1.zero, h2.zero]; rfl
        · have hm' : ((termZ f l).1.occ m || (termZ f (termZ f l).2).1.occ m) = true := hm
          rw [Bool.or_eq_true] at hm'
          rcases hm' with h | h
          · exact h1.vars m h
          · exact h2.vars m h
        · show arrN _ + arrN _ + 1 ≤ _
          have := h1.arr
          have := h2.arr
          rw [Nat.pow_succ]; omega
theorem one_little (zs : List Int) : Little 7 (oneZ zs) := termZ_little 3 _
theorem two_little (zs : List Int) : Little 7 (twoZ zs) := termZ_little 3 _
theorem steps_snoc : ∀ (es : List (Tm × Tm)) (σ σ1 : Sb) (bad : Bool) (a b : Tm), Steps σ es σ1 bad → (∀ σ2, Ans σ1 a b (.ok σ2) → Steps σ (es ++ [(a, b)]) σ2 bad) ∧ (∀ c, Ans σ1 a b (.error c) → Steps σ (es ++ [(a, b)]) σ1 true)
  | [], σ, σ1, bad, a, b, h => by
    obtain ⟨rfl, rfl⟩ := h
    exact ⟨fun σ2 h => .inl ⟨σ2, h, rfl, rfl⟩, fun c h => .inr ⟨c, false, h, ⟨rfl, rfl⟩, rfl⟩⟩
  | (x, y) :: r, σ, σ1, bad, a, b, h => by
    rcases h with ⟨σ', h1, h2⟩ | ⟨c, bad', h1, h2, rfl⟩
    · obtain ⟨p, q⟩ := steps_snoc r σ' σ1 bad a b h2
      exact ⟨fun σ2 h => .inl ⟨σ', h1, p σ2 h⟩, fun c h => .inl ⟨σ', h1, q c h⟩⟩
    · obtain ⟨p, q⟩ := steps_snoc r σ σ1 bad' a b h2
      exact ⟨fun σ2 h => .inr ⟨c, bad', h1, p σ2 h, rfl⟩, fun c' h => .inr ⟨c, true, h1, q c' h, rfl⟩⟩
/-- A row of equations, asked till one is refused: what is known is σ, as long as none is. -/
def SB (es : List (Tm × Tm)) (bad : Bool) (σ : Sb) : Prop := ∃ τ, Steps var es τ bad ∧ Idem τ ∧ InV 5 τ ∧ (bad = false → τ = σ)
theorem inV_var : InV 5 var := ⟨fun _ _ => rfl, fun n m hn h => by simp only [occ, beq_iff_eq] at h; omega⟩
theorem sb_nil : SB [] false var := ⟨var, ⟨rfl, rfl⟩, idem_var, inV_var, fun _ => rfl⟩
theorem sb_ok {es : List (Tm × Tm)} {σ σ' : Sb} {a b : Tm} (h : SB es false σ) (ha : VarsTo 5 a) (hb : VarsTo 5 b) (hr : Ans σ a b (.ok σ')) : SB (es ++ [(a, b)]) false σ' := by
  obtain ⟨τ, h1, h2, h3, h4⟩ := h
  obtain rfl := h4 rfl
  have g := ans_good h2 hr
  have l := ans_less h2 h3 ha hb hr
  exact ⟨σ', (steps_snoc es _ _ _ a b h1).1 σ' hr, g.1, l.1, fun _ => rfl⟩
theorem sb_err {es : List (Tm × Tm)} {σ : Sb} {a b : Tm} {c : Nat} (h : SB es false σ) (hr : Ans σ a b (.error c)) : SB (es ++ [(a, b)]) true σ := by
  obtain ⟨τ, h1, h2, h3, h4⟩ := h
  obtain rfl := h4 rfl
  exact ⟨τ, (steps_snoc es _ _ _ a b h1).2 c hr, h2, h3, fun e => by cases e⟩
theorem sb_skip {es : List (Tm × Tm)} {σ : Sb} {a b : Tm} (h : SB es true σ) (ha : VarsTo 5 a) (hb : VarsTo 5 b) : SB (es ++ [(a, b)]) true σ := by
  obtain ⟨τ, h1, h2, h3, _⟩ := h
  obtain ⟨r, hr⟩ := ans_is h2 h3 ha hb
  cases r with
  | error c => exact ⟨τ, (steps_snoc es _ _ _ a b h1).2 c hr, h2, h3, fun e => by cases e⟩
  | ok σ' => exact ⟨σ', (steps_snoc es _ _ _ a b h1).1 σ' hr, (ans_good h2 hr).1, (ans_less h2 h3 ha hb hr).1, fun e => by cases e⟩
def eqA (Z : List (List Int)) : List (Tm × Tm) := Z.map fun z => (oneZ z, twoZ z)
def eqB (Z : List (List Int)) : List (Tm × Tm) := Z.map fun z => (twoZ z, oneZ z)
theorem eqA_snoc (Z : List (List Int)) (z : List Int) : eqA (Z ++ [z]) = eqA Z ++ [(oneZ z, twoZ z)] := by simp [eqA]
theorem eqB_snoc (Z : List (List Int)) (z : List Int) : eqB (Z ++ [z]) = eqB Z ++ [(twoZ z, oneZ z)] := by simp [eqB]
theorem sb_row {Z : List (List Int)} {b1 b2 : Bool} {σ1 σ2 : Sb} (h1 : SB (eqA Z) b1 σ1) (h2 : SB (eqB Z.reverse) b2 σ2) : b1 = b2 ∧ (b1 = false → ∀ n, kd (σ1 n) = kd (σ2 n)) := by
  obtain ⟨τ1, s1, _, _, e1⟩ := h1
  obtain ⟨τ2, s2, _, _, e2⟩ := h2
  have key := steps_row s1 s2 (fun p hp => by
    right
    simp only [eqA, List.mem_map] at hp
    obtain ⟨z, hz, rfl⟩ := hp
    simp only [eqB, List.mem_map, List.mem_reverse]
    exact ⟨z, hz, rfl⟩) (fun p hp => by
    right
    simp only [eqB, List.mem_map, List.mem_reverse] at hp
    obtain ⟨z, hz, rfl⟩ := hp
    simp only [eqA, List.mem_map]
    exact ⟨z, hz, rfl⟩)
  refine ⟨key.1, fun hb n => ?_⟩
  rw [← e1 hb, ← e2 (by rw [← key.1]; exact hb)]
  exact key.2 hb n
theorem left_var : leftN 5 var = 6 := by decide
end Go.Proofs.Ytomhojpoaicioaa
