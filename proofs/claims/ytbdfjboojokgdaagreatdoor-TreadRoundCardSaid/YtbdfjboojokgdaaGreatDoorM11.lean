/- The contracts of types.Same and what it calls (chapter 4). Conditions: names are of at most 2^40 bytes, types of at most 2^40 nodes. -/
import Derived.Test.YtbdfjboojokgdaaGreatDoorM09
namespace Go.Proofs.YtbdfjboojokgdaaGreatDoor
open Go.RowKit

def Two (ma mb k : Nat) : Prop := k = ma ∨ k = mb
/-- What same told. -/
def SameRes (ma mb : Nat) (fa fb : ByteArray → Int) (N : Nat) (q : Bool) (w : World) (e : Ending) (w' : World) : Prop := e = .returned (.bool q) ∧ MapG w' ma fa N ∧ MapG w' mb fb N ∧ Fr (Two ma mb) w w'
def sumSz (l : List Ty) : Nat := (l.map Ty.sz).sum
theorem sumSz_args (t : Ty) : sumSz t.args + 1 ≤ t.sz := by cases t <;> simp [sumSz, Ty.args, Ty.sz]
theorem sumSz_take {l : List Ty} {k : Nat} (h : k < l.length) : sumSz (l.take (k + 1)) = sumSz (l.take k) + l[k].sz := by
  rw [List.take_succ_eq_append_getElem h]; unfold sumSz; rw [List.map_append, List.sum_append]; simp
theorem sumSz_le (l : List Ty) (k : Nat) : sumSz (l.take k) ≤ sumSz l := by
  have : sumSz l = sumSz (l.take k) + sumSz (l.drop k) := by
    unfold sumSz; rw [← List.sum_append, ← List.map_append, List.take_append_drop]
  omega
theorem sumSz_one {l : List Ty} {k : Nat} (h : k < l.length) : sumSz (l.take k) + l[k].sz ≤ sumSz l := by
  rw [← sumSz_take h]; exact sumSz_le l _
theorem sameL_all {fa fb : ByteArray → Int} {d : Int} : ∀ {l r : List Ty}, l.length = r.length → (∀ j (h : j < l.length) (h' : j < r.length), sameT fa fb d l[j] r[j] = true) → sameL fa fb d l r = true
  | [], [], _, _ => rfl
  | a :: l, b :: r, hl, h => by
    have h0 := h 0 (by simp) (by simp)
    simp only [List.getElem_cons_zero] at h0
    rw [sameL, h0, sameL_all (by simpa using hl) (fun j h1 h2 => by have := h (j + 1) (by simpa using h1) (by simpa using h2); simpa using this)]; rfl
  | [], b :: r, hl, _ => by simp at hl
  | a :: l, [], hl, _ => by simp at hl
theorem sameL_none {fa fb : ByteArray → Int} {d : Int} : ∀ {l r : List Ty} (k : Nat) (h : k < l.length) (h' : k < r.length), sameT fa fb d l[k] r[k] = false → sameL fa fb d l r = false
  | [], _, k, h, _, _ => absurd h (Nat.not_lt_zero _)
  | _ :: _, [], k, _, h', _ => absurd h' (Nat.not_lt_zero _)
  | a :: l, b :: r, 0, _, _, hk => by simp only [List.getElem_cons_zero] at hk; rw [sameL, hk]; rfl
  | a :: l, b :: r, k + 1, h, h', hk => by
    simp only [List.getElem_cons_succ] at hk
    rw [sameL, sameL_none k (by simpa using h) (by simpa using h') hk]; simp
theorem box2 (w : World) (a0 a1 : Value) (t : TypeId) : ∃ W, w.alloc (.cells #[a0, a1] t) = W ∧ W.heap[w.heap.size]? = some (.cells #[a0, a1] t) ∧ Below w.heap.size w W ∧ W.heap.size = w.heap.size + 1 :=
  ⟨_, rfl, (MapKept.heap_alloc w _).1, below_new w _, by simp⟩
end Go.Proofs.YtbdfjboojokgdaaGreatDoor
