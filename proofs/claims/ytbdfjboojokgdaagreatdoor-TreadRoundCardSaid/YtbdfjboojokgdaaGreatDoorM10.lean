/- The contract of the document's Size (chapter 4). Condition: the type has at most 2^40 nodes. -/
import Derived.Test.YtbdfjboojokgdaaGreatDoorM09
namespace Go.Proofs.YtbdfjboojokgdaaGreatDoor
open Go.RowKit

/-- How many names and numbers there are. -/
def Ty.count : Ty → Nat
  | .app a b => a.count + b.count | .all _ a => 1 + a.count | _ => 1
def Ty.own1 (t : Ty) : Nat := if t.form = 4 then 0 else 1
def sumC (l : List Ty) : Nat := (l.map Ty.count).sum
theorem count_args (t : Ty) : t.count = t.own1 + sumC t.args := by
  cases t <;> simp [Ty.count, Ty.own1, Ty.form, sumC, Ty.args]
theorem count_le : ∀ t : Ty, t.count ≤ t.sz
  | .app a b => by have := count_le a; have := count_le b; simp [Ty.count, Ty.sz]; omega
  | .all _ a => by have := count_le a; simp [Ty.count, Ty.sz]; omega
  | .hole _ => by simp [Ty.count, Ty.sz]
  | .var _ => by simp [Ty.count, Ty.sz]
  | .con _ => by simp [Ty.count, Ty.sz]
theorem sumC_take {l : List Ty} {k : Nat} (h : k < l.length) : sumC (l.take (k + 1)) = sumC (l.take k) + l[k].count := by
  unfold sumC; rw [List.take_succ_eq_append_getElem h, List.map_append, List.sum_append]; simp
theorem sumC_le (l : List Ty) (k : Nat) : sumC (l.take k) ≤ sumC l := by
  induction l generalizing k with
  | nil => simp [sumC]
  | cons a r ih =>
    cases k with
    | zero => simp [sumC]
    | succ k => have := ih k; simp [sumC] at this ⊢; omega
end Go.Proofs.YtbdfjboojokgdaaGreatDoor
