/- has and list; what lies in memory while a search runs. No conditions but those that each theorem names. -/
import Derived.Test.YthmnghngcbkjpaaMem
import Derived.BigRegion
import Derived.Deep.RegionLaw
import Derived.Deep.RegionHeld3
namespace Go.Proofs.Ythmnghngcbkjpaa
open Go.RowKit
/-- Is a number one of the things'? -/
def hasB (n z : Int) : Bool := decide (0 ≤ z ∧ z < n)
theorem hasB_true {n z : Int} (h0 : 0 ≤ z) (h1 : z < n) : hasB n z = true := decide_eq_true ⟨h0, h1⟩
theorem hasB_false {n z : Int} (h : ¬ (0 ≤ z ∧ z < n)) : hasB n z = false := decide_eq_false h
set_option maxHeartbeats 400000 in
theorem has_any (n z : Int) (A : Option Addr) (l c : Nat) (w : World) :
    Calls Try.prog 22 #[.agg #[.int .i64 n, .slice A l c], .int .i64 z] w fun e w' => e = .returned (.bool (hasB n z)) ∧ Below w.heap.size w w' := by
  by_cases h0 : 0 ≤ z
  · by_cases h1 : z < n
    · have HB := Lib.hid (hasB_true h0 h1)
      go_enter Try.func22, Try.ntmps22
      go_wp2
      go_ret
      exact ⟨ret_bool HB.out.symm, below_new _ _⟩
    · have HB := Lib.hid (hasB_false (fun e => h1 e.2) : hasB n z = false)
      go_enter Try.func22, Try.ntmps22
      go_wp2
      go_ret
      exact ⟨ret_bool HB.out.symm, below_new _ _⟩
  · have HB := Lib.hid (hasB_false (fun e => h0 e.1) : hasB n z = false)
    go_enter Try.func22, Try.ntmps22
    go_wp2
    go_ret
    exact ⟨ret_bool HB.out.symm, below_new _ _⟩
set_option maxHeartbeats 400000 in
theorem list_any (P : Nat → Prop) (n x : Nat) (v : Value) (M : List (List Int)) (w : World) (h : MatAt P w v M) :
    Calls Try.prog 23 #[.agg #[.int .i64 n, v], .int .i64 x] w fun e w' => (∃ u, e = .returned u ∧ IntsAt P w' u (useL M x)) ∧ Below w.heap.size w w' := by
  obtain ⟨A, c, rfl, hc, hm⟩ := h.form
  unfold maxLen at hm
  by_cases hlt : x < M.length
  · obtain ⟨b, off, A', c', rfl, hb, hcell, hi⟩ := h.at x hlt
    have HI := Lib.hid hi
    have hcell2 := ((below_new w (.cells #[.int .i64 n, .slice (some ⟨b, off, none⟩) M.length c] 34)).cell (p := ⟨b, off + x, none⟩) hb).trans hcell
    have HU := Lib.hid (useL_in hlt)
    clear hi hcell h
    go_enter Try.func23, Try.ntmps23
    go_wp2
    go_ret
    exact ⟨⟨_, rfl, by rw [HU.out]; exact HI.out.on (below_new _ _)⟩, below_new _ _⟩
  · have HU := Lib.hid (useL_out (Nat.le_of_not_lt hlt))
    have hge : ¬ (x : Int) < (M.length : Int) := by omega
    clear h
    go_enter Try.func23, Try.ntmps23
    go_wp2
    go_ret
    exact ⟨⟨_, rfl, by rw [HU.out]; exact ints_nil _ _⟩, below_new _ _⟩
end Go.Proofs.Ythmnghngcbkjpaa
