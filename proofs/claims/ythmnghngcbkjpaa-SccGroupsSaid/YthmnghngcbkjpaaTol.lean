/- One choice after another: what the document's loops know (mathematics; no program). No conditions but those that each theorem names. -/
import Derived.Test.YthmnghngcbkjpaaNum
namespace Go.Proofs.Ythmnghngcbkjpaa
section
variable {n : Nat} {L : Nat → List Int} {ld : Nat → Nat → Bool} {dn : Nat → Bool}
def readyK (ld : Nat → Nat → Bool) (dn : Nat → Bool) (i k : Nat) : Bool := !dn i && (List.range k).all (fun x => !blocks ld dn i x)
theorem readyK_zero (i : Nat) : readyK ld dn i 0 = !dn i := by simp [readyK]
theorem readyK_succ (i k : Nat) : readyK ld dn i (k + 1) = (readyK ld dn i k && !blocks ld dn i k) := by
  unfold readyK
  rw [List.range_succ, List.all_append, Bool.and_assoc]
  simp
theorem readyK_is (i : Nat) : readyK ld dn i n = ready n ld dn i := rfl
theorem next_is {i : Nat} (h : ∀ j, j < i → ready n ld dn j = false) (hi : i < n) (hr : ready n ld dn i = true) : next n ld dn = some i := by
  unfold next
  rw [List.find?_range_eq_some]
  exact ⟨hr, List.mem_range.2 hi, fun j hj => by rw [h j hj]; rfl⟩
theorem next_no (h : ∀ j, j < n → ready n ld dn j = false) : next n ld dn = none := by
  unfold next
  rw [List.find?_eq_none]
  intro j hj
  rw [h j (List.mem_range.1 hj)]; simp
theorem next_full (h : n ≤ cnt n dn) : next n ld dn = none := by
  have hc : cnt n dn = n := Nat.le_antisymm (cnt_le n dn) h
  refine next_no fun j hj => ?_
  unfold ready
  rw [cnt_full hc j hj]; rfl
def clsK (ld : Nat → Nat → Bool) (i k : Nat) : List Nat := (List.range k).filter (fun x => mutB ld i x)
theorem clsK_is (i : Nat) : clsK ld i n = cls n ld i := rfl
theorem clsK_succ (i k : Nat) : clsK ld i (k + 1) = clsK ld i k ++ if mutB ld i k then [k] else [] := by
  unfold clsK
  rw [List.range_succ, List.filter_append]
  congr 1
  cases h : mutB ld i k <;> simp [h]
theorem clsK_le (i k : Nat) : (clsK ld i k).length ≤ k := by
  have := List.length_filter_le (fun x => mutB ld i x) (List.range k)
  rw [List.length_range] at this; exact this
def moreK (ld : Nat → Nat → Bool) (dn : Nat → Bool) (i k : Nat) : Nat → Bool := fun x => dn x || (decide (x < k) && mutB ld i x)
theorem moreK_zero (i : Nat) : moreK ld dn i 0 = dn := by funext x; simp [moreK]
theorem moreK_yes {i k : Nat} (h : mutB ld i k = true) : moreK ld dn i (k + 1) = upd (moreK ld dn i k) k true := by
  funext x
  unfold moreK upd
  by_cases e : x = k
  · subst e; simp [h]
  · rw [if_neg e]
    have : decide (x < k + 1) = decide (x < k) := by rw [decide_eq_decide]; omega
    rw [this]
theorem moreK_no {i k : Nat} (h : mutB ld i k = false) : moreK ld dn i (k + 1) = moreK ld dn i k := by
  funext x
  unfold moreK
  by_cases e : x = k
  · subst e; simp [h]
  · have : decide (x < k + 1) = decide (x < k) := by rw [decide_eq_decide]; omega
    rw [this]
theorem cnt_or {p q : Nat → Bool} {m : Nat} (h : ∀ x, x < m → p x = true → q x = false) : cnt m (fun x => p x || q x) = cnt m p + ((List.range m).filter q).length := by
  unfold cnt
  induction m with
  | zero => rfl
  | succ m ih =>
    rw [List.range_succ, List.filter_append, List.filter_append, List.filter_append, List.length_append, List.length_append, List.length_append, ih (fun x hx => h x (by omega))]
    have := h m (by omega)
    cases hp : p m <;> cases hq : q m <;> simp [hp, hq] <;> first | omega | (rw [hp, hq] at this; simp at this)
theorem cnt_congr {p q : Nat → Bool} {m : Nat} (h : ∀ x, x < m → p x = q x) : cnt m p = cnt m q := by
  unfold cnt
  rw [List.filter_congr (fun x hx => h x (List.mem_range.1 hx))]
theorem moreK_is {i x : Nat} (hx : x < n) : moreK ld dn i n x = more ld dn i x := by simp [moreK, more, hx]
theorem Told.more (h : LdIs n L ld) {r : List (List Nat)} (ht : Told n ld dn r) {i : Nat} (hn : next n ld dn = some i) :
    Told n ld (more ld dn i) (r ++ [clsK ld i n]) ∧ cnt n (more ld dn i) = cnt n dn + (clsK ld i n).length ∧ 1 ≤ (clsK ld i n).length := by
  obtain ⟨hi, hr⟩ := next_some hn
  obtain ⟨hd, _⟩ := ready_iff.1 hr
  have hok := ht.ok h
  have hself : mutB ld i i = true := (h.mutual_ hi hi).2 ⟨.refl _, .refl _⟩
  have hdis : ∀ x, x < n → dn x = true → mutB ld i x = false := by
    intro x hx hdx
    cases e : mutB ld i x with
    | false => rfl
    | true =>
      have hm := (h.mutual_ hi hx).1 e
      have := hok.down x i hx hi hdx hm.2
      rw [this] at hd; cases hd
  refine ⟨ht.snoc hn, cnt_or hdis, List.length_pos_of_mem (List.mem_filter.2 ⟨List.mem_range.2 hi, hself⟩)⟩
end
end Go.Proofs.Ythmnghngcbkjpaa
