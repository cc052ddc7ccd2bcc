/- A search by what is seen and what is left to go through (mathematics; no program). No conditions but those that each theorem names. -/
import Derived.Test.YthmnghngcbkjpaaNum
namespace Go.Proofs.Ythmnghngcbkjpaa
def pN (S : Int → Bool) : Nat → Bool := fun x => S (x : Int)
def mark (S : Int → Bool) (m : Int) : Int → Bool := fun x => x == m || S x
theorem mark_self (S : Int → Bool) (m : Int) : mark S m m = true := by simp [mark]
theorem mark_keep (S : Int → Bool) (m : Int) {x : Int} (h : S x = true) : mark S m x = true := by simp [mark, h]
theorem mark_of {S : Int → Bool} {m x : Int} (h : mark S m x = true) : x = m ∨ S x = true := by simpa [mark] using h
theorem pN_mark (S : Int → Bool) (z : Nat) : pN (mark S (z : Int)) = upd (pN S) z true := by
  funext x
  unfold pN mark upd
  by_cases e : x = z
  · subst e; simp
  · rw [if_neg e]
    have : ((x : Int) == (z : Int)) = false := by rw [beq_eq_false_iff_ne]; omega
    rw [this]; rfl
structure Rch (n : Nat) (L : Nat → List Int) (src : Nat) (S : Int → Bool) (left : List Nat) : Prop where
  sound : ∀ x : Int, S x = true → 0 ≤ x ∧ x < n ∧ Leads n L src x.toNat
  start : S (src : Int) = true
  lefts : ∀ x ∈ left, S (x : Int) = true
  shut : ∀ x : Nat, S (x : Int) = true → x ∉ left → ∀ y, Edge n L x y → S (y : Int) = true
structure RchIn (n : Nat) (L : Nat → List Int) (src : Nat) (S : Int → Bool) (left : List Nat) (a k : Nat) : Prop where
  sound : ∀ x : Int, S x = true → 0 ≤ x ∧ x < n ∧ Leads n L src x.toNat
  start : S (src : Int) = true
  lefts : ∀ x ∈ left, S (x : Int) = true
  now : S (a : Int) = true
  shut : ∀ x : Nat, S (x : Int) = true → x ∉ left → x ≠ a → ∀ y, Edge n L x y → S (y : Int) = true
  seen : ∀ z ∈ (L a).take k, 0 ≤ z → z < n → S z = true
section
variable {n : Nat} {L : Nat → List Int} {src : Nat} {S : Int → Bool} {left : List Nat} {a k : Nat}
theorem Rch.begin (h : src < n) : Rch n L src (mark (fun _ => false) (src : Int)) [src] := by
  refine ⟨fun x hx => ?_, mark_self _ _, fun x hx => ?_, fun x hx hl => ?_⟩
  · rcases mark_of hx with rfl | hx
    · exact ⟨by omega, by omega, by simpa using Leads.refl src⟩
    · cases hx
  · rw [List.mem_singleton.1 hx]; exact mark_self _ _
  · rcases mark_of hx with e | hx
    · exact absurd (List.mem_singleton.2 (by omega)) hl
    · cases hx
theorem Rch.lt (h : Rch n L src S left) : ∀ x ∈ left, x < n := fun x hx => by have := (h.sound _ (h.lefts x hx)).2.1; omega
theorem Rch.pop (h : Rch n L src S (left ++ [a])) : RchIn n L src S left a 0 :=
  ⟨h.sound, h.start, fun x hx => h.lefts x (List.mem_append_left _ hx), h.lefts a (by simp), fun x hx hl ha => h.shut x hx (by simp [hl, ha]), fun z hz => by simp at hz⟩
theorem RchIn.mark {z : Nat} (h : RchIn n L src S left a k) (hk : k < (L a).length) (hz : (L a)[k] = (z : Int)) (hzn : z < n) : RchIn n L src (mark S (z : Int)) (left ++ [z]) a (k + 1) := by
  refine ⟨fun x hx => ?_, mark_keep _ _ h.start, fun x hx => ?_, mark_keep _ _ h.now, fun x hx hl ha y he => ?_, fun z' hz' h0 h1 => ?_⟩
  · rcases mark_of hx with rfl | hx
    · have hs := h.sound _ h.now
      exact ⟨by omega, by omega, by simpa using hs.2.2.step ⟨by simp; omega, hzn, by simp; rw [← hz]; exact List.getElem_mem hk⟩⟩
    · exact h.sound x hx
  · rcases List.mem_append.1 hx with hx | hx
    · exact mark_keep _ _ (h.lefts x hx)
    · rw [List.mem_singleton.1 hx]; exact mark_self _ _
  · have hxz : x ≠ z := fun e => hl (by rw [e]; simp)
    rcases mark_of hx with e | hx
    · exact absurd (by omega) hxz
    · exact mark_keep _ _ (h.shut x hx (fun hm => hl (List.mem_append_left _ hm)) ha y he)
  · rw [List.take_succ_eq_append_getElem hk, hz] at hz'
    rcases List.mem_append.1 hz' with hz' | hz'
    · exact mark_keep _ _ (h.seen z' hz' h0 h1)
    · rw [List.mem_singleton.1 hz']; exact mark_self _ _
theorem RchIn.pass {z : Int} (h : RchIn n L src S left a k) (hk : k < (L a).length) (hz : (L a)[k] = z) (h0 : ¬ (0 ≤ z ∧ z < n) ∨ S z = true) : RchIn n L src S left a (k + 1) := by
  refine ⟨h.sound, h.start, h.lefts, h.now, h.shut, fun z' hz' h0' h1' => ?_⟩
  rw [List.take_succ_eq_append_getElem hk, hz] at hz'
  rcases List.mem_append.1 hz' with hz' | hz'
  · exact h.seen z' hz' h0' h1'
  · rw [List.mem_singleton.1 hz'] at h0' h1' ⊢
    rcases h0 with h0 | h0
    · exact absurd ⟨h0', h1'⟩ h0
    · exact h0
theorem RchIn.done (h : RchIn n L src S left a k) (hk : (L a).length ≤ k) : Rch n L src S left := by
  refine ⟨h.sound, h.start, h.lefts, fun x hx hl y he => ?_⟩
  by_cases e : x = a
  · subst e
    exact h.seen _ (by rw [List.take_of_length_le hk]; exact he.2.2) (by omega) (by have := he.2.1; omega)
  · exact h.shut x hx hl e y he
theorem Rch.ends (h : Rch n L src S []) {y : Nat} (_hy : y < n) : S (y : Int) = true ↔ Leads n L src y := by
  constructor
  · intro hs; simpa using (h.sound _ hs).2.2
  · intro hl
    have : ∀ y, Leads n L src y → S (y : Int) = true := by
      intro y hl
      induction hl with
      | refl => exact h.start
      | step _ he ih => exact h.shut _ ih (by simp) _ he
    exact this y hl
theorem Rch.found (h : Rch n L src S left) {y : Nat} (hs : S (y : Int) = true) : Leads n L src y := by simpa using (h.sound _ hs).2.2
end
/-- Does one thing lead to another? -/
def reachB (n : Nat) (ld : Nat → Nat → Bool) (a b : Int) : Bool := decide (0 ≤ a ∧ a < n ∧ 0 ≤ b ∧ b < n) && ld a.toNat b.toNat
end Go.Proofs.Ythmnghngcbkjpaa
