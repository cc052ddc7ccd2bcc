/- Things counted from the end: the rows of uses that are made so (mathematics; no program). No conditions but those that each theorem names. -/
import Derived.Test.YthmnghngcbkjpaaAga
namespace Go.Proofs.Ythmnghngcbkjpaa
def okZ (n : Nat) (z : Int) : Bool := decide (0 ≤ z) && decide (z < (n : Int))
def tr (n : Nat) (l : List Int) : List Int := (l.filter (okZ n)).map (fun z : Int => (n : Int) - 1 - z)
def rowT (n : Nat) (L : Nat → List Int) (i j m : Nat) : List Int := if n - 1 - m < i then tr n (L (n - 1 - m)) else if n - 1 - m = i then tr n ((L i).take j) else []
def tmat (n : Nat) (L : Nat → List Int) (i j : Nat) : List (List Int) := (List.range n).map (rowT n L i j)
section
variable {n : Nat} {L : Nat → List Int} {i j : Nat}
theorem tr_snoc (l : List Int) (z : Int) : tr n (l ++ [z]) = tr n l ++ if okZ n z = true then [(n : Int) - 1 - z] else [] := by
  unfold tr
  rw [List.filter_append, List.map_append]
  cases h : okZ n z <;> simp [h]
theorem tmat_len : (tmat n L i j).length = n := by simp [tmat]
theorem tmat_get (m : Nat) (h : m < (tmat n L i j).length) : (tmat n L i j)[m] = rowT n L i j m := by simp [tmat]
theorem tmat_start : tmat n L 0 0 = List.replicate n [] := by
  apply List.ext_getElem
  · simp [tmat]
  · intro m h1 h2
    rw [tmat_get, List.getElem_replicate]
    unfold rowT
    rw [if_neg (by omega)]
    split
    · simp [tr]
    · rfl
theorem rowT_other (j' m : Nat) (h : n - 1 - m ≠ i) : rowT n L i j m = rowT n L i j' m := by
  unfold rowT
  split
  · rfl
  · have _h2 := h; simp
theorem tmat_skip (hj : j < (L i).length) (hz : okZ n (L i)[j] = false) : tmat n L i (j + 1) = tmat n L i j := by
  unfold tmat
  apply List.map_congr_left
  intro m _
  by_cases e : n - 1 - m = i
  · unfold rowT
    rw [if_neg (by omega), if_pos e, if_neg (by omega), if_pos e, List.take_succ_eq_append_getElem hj, tr_snoc, hz]
    simp
  · exact rowT_other _ _ e
theorem tmat_put (hi : i < n) (hj : j < (L i).length) (hz : okZ n (L i)[j] = true) : tmat n L i (j + 1) = (tmat n L i j).set (n - 1 - i) ((tmat n L i j)[n - 1 - i]'(by rw [tmat_len]; omega) ++ [(n : Int) - 1 - (L i)[j]]) := by
  apply List.ext_getElem
  · simp [tmat]
  · intro m h1 h2
    rw [tmat_len] at h1
    rw [List.getElem_set]
    simp only [tmat_get]
    by_cases e : n - 1 - i = m
    · subst e
      rw [if_pos rfl]
      have e2 : n - 1 - (n - 1 - i) = i := by omega
      unfold rowT
      rw [e2, if_neg (by omega), if_pos rfl, if_neg (by omega), if_pos rfl, List.take_succ_eq_append_getElem hj, tr_snoc, hz]
      simp
    · rw [if_neg e]
      exact rowT_other _ _ (by omega)
theorem tmat_next (hj : (L i).length ≤ j) : tmat n L i j = tmat n L (i + 1) 0 := by
  unfold tmat
  apply List.map_congr_left
  intro m _
  unfold rowT
  by_cases e1 : n - 1 - m < i
  · rw [if_pos e1, if_pos (by omega)]
  · by_cases e2 : n - 1 - m = i
    · rw [if_neg e1, if_pos e2, if_pos (by omega), List.take_of_length_le hj, e2]
    · rw [if_neg e1, if_neg e2, if_neg (by omega)]
      split
      · simp [tr]
      · rfl
theorem tmat_use (h : ∀ a, i ≤ a → a < n → L a = []) : useL (tmat n L i 0) = turnL n L := by
  funext m
  unfold turnL
  by_cases hm : m < n
  · rw [if_pos hm, useL_in (by rw [tmat_len]; exact hm), tmat_get]
    unfold rowT
    by_cases e1 : n - 1 - m < i
    · rw [if_pos e1]; rfl
    · rw [if_neg e1, h (n - 1 - m) (by omega) (by omega)]
      split
      · simp [tr]
      · simp
  · rw [if_neg hm, useL_out (by rw [tmat_len]; omega)]
theorem tr_bnd (hn : n ≤ 1000) (l : List Int) : ∀ z ∈ tr n l, -9223372036854775808 ≤ z ∧ z ≤ 9223372036854775807 := by
  intro z hz
  obtain ⟨y, hy, rfl⟩ := List.mem_map.1 hz
  have := (List.mem_filter.1 hy).2
  simp [okZ] at this
  omega
theorem tmat_bnd (hn : n ≤ 1000) : ∀ r ∈ tmat n L i j, ∀ z ∈ r, -9223372036854775808 ≤ z ∧ z ≤ 9223372036854775807 := by
  intro r hr z hz
  obtain ⟨m, _, rfl⟩ := List.mem_map.1 hr
  unfold rowT at hz
  split at hz
  · exact tr_bnd hn _ z hz
  · split at hz
    · exact tr_bnd hn _ z hz
    · cases hz
theorem tr_le (l : List Int) : (tr n l).length ≤ l.length := by
  unfold tr; rw [List.length_map]; exact List.length_filter_le _ _
theorem rowT_le (hL : ∀ a, (L a).length ≤ 1000) (m : Nat) : (rowT n L i j m).length ≤ 1000 := by
  unfold rowT
  split
  · exact Nat.le_trans (tr_le _) (hL _)
  · split
    · refine Nat.le_trans (tr_le _) ?_
      rw [List.length_take]; have := hL i; omega
    · simp
theorem tmat_small (hL : ∀ a, (L a).length ≤ 1000) (m : Nat) : (useL (tmat n L i j) m).length ≤ 1000 := by
  by_cases hm : m < n
  · rw [useL_in (by rw [tmat_len]; exact hm), tmat_get]; exact rowT_le hL m
  · rw [useL_out (by rw [tmat_len]; omega)]; simp
theorem okZ_true {z : Int} (h0 : 0 ≤ z) (h1 : z < n) : okZ n z = true := by simp [okZ, h0, h1]
theorem okZ_false {z : Int} (h : ¬ (0 ≤ z ∧ z < n)) : okZ n z = false := by
  cases e : okZ n z with
  | false => rfl
  | true => simp [okZ] at e; exact absurd e h
end
end Go.Proofs.Ythmnghngcbkjpaa
