/- The document's Leads, of any two numbers. Conditions: those that the theorem names. -/
import Derived.Test.YthmnghngcbkjpaaLds
namespace Go.Proofs.Ythmnghngcbkjpaa
open Go.RowKit
theorem reachB_in (n : Nat) (ld : Nat → Nat → Bool) {a b : Nat} (ha : a < n) (hb : b < n) : reachB n ld (a : Int) (b : Int) = ld a b := by
  have h : (0 : Int) ≤ (a : Int) ∧ (a : Int) < n ∧ (0 : Int) ≤ (b : Int) ∧ (b : Int) < n := by omega
  simp only [reachB, decide_eq_true h, Bool.true_and, Int.toNat_natCast]
theorem reachB_out (n : Nat) (ld : Nat → Nat → Bool) {a b : Int} (h : ¬ (0 ≤ a ∧ a < n ∧ 0 ≤ b ∧ b < n)) : reachB n ld a b = false := by
  simp only [reachB, decide_eq_false h, Bool.false_and]
set_option maxRecDepth 100000 in
set_option maxHeartbeats 1000000 in
theorem leads_no (n : Nat) (Au : Option Addr) (lu cu : Nat) (a b : Int) (w : World) (_hn : n ≤ 1000) (h : ¬ (0 ≤ a ∧ a < n ∧ 0 ≤ b ∧ b < n)) :
    Calls Try.prog 16 #[.int .i64 n, .slice Au lu cu, .int .i64 a, .int .i64 b] w (BoolB false w) := by
  by_cases h1 : a < 0
  · go_enter Try.func16, Try.ntmps16
    go_wp2
    go_ret
    exact ⟨rfl, Below.refl _ _⟩
  · by_cases h2 : b < 0
    · go_enter Try.func16, Try.ntmps16
      go_wp2
      go_ret
      exact ⟨rfl, Below.refl _ _⟩
    · by_cases h3 : a ≥ (n : Int)
      · go_enter Try.func16, Try.ntmps16
        go_wp2
        go_ret
        exact ⟨rfl, Below.refl _ _⟩
      · have h4 : b ≥ (n : Int) := by omega
        clear h
        go_enter Try.func16, Try.ntmps16
        go_wp2
        go_ret
        exact ⟨rfl, Below.refl _ _⟩
theorem leads_ref (n : Nat) (uv : Value) (M : List (List Int)) (a b : Int) (w : World) (h : MatAt (fun b => b < w.heap.size) w uv M) (hn : n ≤ 1000) (hM : ∀ i, (useL M i).length ≤ 1000) (ld : Nat → Nat → Bool) (hld : LdIs n (useL M) ld) :
    Calls Try.prog 16 #[.int .i64 n, uv, .int .i64 a, .int .i64 b] w (BoolB (reachB n ld a b) w) := by
  by_cases hab : 0 ≤ a ∧ a < n ∧ 0 ≤ b ∧ b < n
  · obtain ⟨h0, h1, h2, h3⟩ := hab
    obtain ⟨x, rfl⟩ := Int.eq_ofNat_of_zero_le h0
    obtain ⟨y, rfl⟩ := Int.eq_ofNat_of_zero_le h2
    rw [reachB_in n ld (by omega) (by omega)]
    exact leads_in n uv M x y w h hn hM (by omega) (by omega) ld hld
  · rw [reachB_out n ld hab]
    obtain ⟨Au, cu, rfl, _, _⟩ := h.form
    exact leads_no n Au _ cu a b w hn hab
end Go.Proofs.Ythmnghngcbkjpaa
