/- The contract of the document's Print of types (chapter 4). Conditions: the print has at most 2^40 bytes; numbers of what is not known are 0 to 9. -/
import Derived.Test.YtbdfjboojokgdaaDoorRefS
import Derived.Test.YtbdfjboojokgdaaDoorSameM
namespace Go.Proofs.YtbdfjboojokgdaaDoor
open Go.RowKit

theorem prAt_le (p : Nat) (t : Ty) : t.pr.length ≤ (t.prAt p).length := by
  unfold Ty.prAt brk; split <;> simp; omega
theorem refprint_of (P : Nat → Prop) : ∀ (n : Nat) (t : Ty), t.sz ≤ n → t.ten → t.pr.length ≤ 1099511627776 → RefPr P t
  | 0, t, h, _, _ => by cases t <;> simp [Ty.sz] at h
  | n + 1, t, h, ht, hl => by
    cases t with
    | hole k => exact refprint_hole P k ht.1 ht.2
    | var s => exact refprint_name P _ s (.inl rfl) hl
    | con s => exact refprint_name P _ s (.inr rfl) hl
    | all s a =>
      refine refprint_all P s a (refprint_of P n a (by simp [Ty.sz] at h; omega) ht ?_) hl
      rw [Ty.pr] at hl; simp at hl; omega
    | app x b =>
      simp only [Ty.sz] at h
      cases hs : (Ty.app x b).sides with
      | none =>
        have h1 := prAt_le 2 x
        have h2 := prAt_le 3 b
        have hl' := hl
        rw [Ty.pr_app hs] at hl'
        simp only [List.length_append] at hl'
        exact refprint_app P x b hs (refprint_of P n x (by omega) ht.1 (by omega)) (refprint_of P n b (by omega) ht.2 (by omega)) hl
      | some p =>
        obtain ⟨a, b'⟩ := p
        have hl' := hl
        rw [Ty.pr_fun hs] at hl'
        have h1 := prAt_le 2 a
        have h2 := prAt_le 1 b'
        simp only [List.length_append] at hl'
        obtain ⟨f, e, hf⟩ := sides_shape hs
        injection e with e1 e2
        subst e1; subst e2
        simp only [Ty.sz] at h
        exact refprint_fun P _ a b hs (refprint_of P n a (by omega) ht.1.2 (by omega)) (refprint_of P n b (by omega) ht.2 (by omega)) hl
theorem refprint_any (P : Nat → Prop) (t : Ty) (ht : t.ten) (hl : t.pr.length ≤ 1099511627776) : RefPr P t := refprint_of P _ t (Nat.le_refl _) ht hl
theorem world_ten : ∀ (t : Ty), t.world → t.ten
  | .hole _, h => by rcases h with rfl | rfl | rfl | rfl <;> exact ⟨by omega, by omega⟩
  | .var _, _ => trivial
  | .con _, _ => trivial
  | .app a b, h => ⟨world_ten a h.1, world_ten b h.2⟩
  | .all _ a, h => world_ten a h.2
theorem world_small : ∀ (t : Ty), t.world → t.small
  | .hole _, h => by rcases h with rfl | rfl | rfl | rfl <;> exact ⟨by omega, by omega⟩
  | .var _, _ => trivial
  | .con _, _ => trivial
  | .app a b, h => ⟨world_small a h.1, world_small b h.2⟩
  | .all _ a, h => world_small a h.2
theorem world_short : ∀ (t : Ty), t.world → t.short
  | .hole _, _ => trivial
  | .var _, h => by rcases h with rfl | rfl | rfl | rfl <;> (show ByteArray.size _ ≤ _; decide)
  | .con _, h => by rcases h with rfl | rfl | rfl | rfl | rfl | rfl <;> (show ByteArray.size _ ≤ _; decide)
  | .app a b, h => ⟨world_short a h.1, world_short b h.2⟩
  | .all _ a, h => ⟨by rcases h.1 with rfl | rfl | rfl | rfl <;> decide, world_short a h.2⟩
/-- A print is not longer than this. -/
theorem world_pr : ∀ (t : Ty), t.world → t.pr.length ≤ 14 * t.sz
  | .hole n, h => by rcases h with rfl | rfl | rfl | rfl <;> (rw [Ty.pr]; simp [Ty.sz, Lib.decDigits])
  | .var s, h => by rcases h with rfl | rfl | rfl | rfl <;> simp [Ty.pr, Ty.sz]
  | .con s, h => by rcases h with rfl | rfl | rfl | rfl | rfl | rfl <;> simp [Ty.pr, Ty.sz, Ty.isArrow] <;> decide
  | .all s a, h => by
    have := world_pr a h.2
    rw [Ty.pr]
    rcases h.1 with rfl | rfl | rfl | rfl <;> simp [Ty.sz] <;> omega
  | .app x b, h => by
    have h1 := world_pr x h.1
    have h2 := world_pr b h.2
    have hb : ∀ (p : Nat) (t : Ty), (t.prAt p).length ≤ t.pr.length + 2 := fun p t => by unfold Ty.prAt brk; split <;> simp
    cases hs : (Ty.app x b).sides with
    | none =>
      have := hb 2 x
      have := hb 3 b
      rw [Ty.pr_app hs]; simp only [List.length_append, List.length_cons, List.length_nil, Ty.sz]; omega
    | some p =>
      obtain ⟨a, b'⟩ := p
      rw [Ty.pr_fun hs]
      obtain ⟨f, e, hf⟩ := sides_shape hs
      injection e with e1 e2
      subst e1; subst e2
      have := hb 2 a
      have := hb 1 b
      have h3 := world_pr a h.1.2
      simp only [List.length_append, List.length_cons, List.length_nil, Ty.sz] at h1 ⊢; omega
theorem sameT_refl : ∀ (t : Ty) (f : ByteArray → Int) (d : Int), sameT f f d t t = true
  | .hole n, _, _ => by simp [sameT]
  | .var s, f, _ => by simp [sameT]
  | .con s, _, _ => by simp [sameT]
  | .app a b, f, d => by simp [sameT, sameT_refl a f d, sameT_refl b f d]
  | .all s a, f, d => by simp [sameT, sameT_refl a]
end Go.Proofs.YtbdfjboojokgdaaDoor
