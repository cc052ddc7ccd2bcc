/- roots: of each thing one of its group. No conditions but those that each theorem names. -/
import Derived.Test.YthmnghngcbkjpaaFro
import Derived.Deep.OwnRows
import Derived.Deep.DeepCutAuto
namespace Go.Proofs.Ythmnghngcbkjpaa
open Go.RowKit
theorem made_row (n : Nat) (z : Value) : madeCells #[z] n = rowA n (fun _ => z) := by
  apply Array.ext
  · simp [rowA, size_madeCells]
  · intro i h1 h2
    rw [rowA_get]
    simp [madeCells, Nat.mod_one]
theorem make_ints (n : Nat) (hn : n ≤ 1099511627776) (W : World) : (Instr.makeSlice 30 (.int .i64 (n : Int)) (.int .i64 (n : Int))).run Try.prog W = .ok (.slice (some ⟨W.heap.size, 0, none⟩) n n) (W.alloc (.cells (rowA n (fun _ => natV 0)) 3)) := by
  have h := run_make_row' (P := Try.prog) 30 3 (.int .i64 0) 8 Try.underlying30 Try.info3 rfl .i64 .i64 n (by omega) (by omega) W
  rw [made_row] at h
  exact h
def RootsRes (n : Nat) (L : Nat → List Int) (w : World) (e : Ending) (w' : World) : Prop :=
  ∃ (R : Nat → Nat) (b : Nat), e = .returned (.slice (some ⟨b, 0, none⟩) n n) ∧ RowAt w' b 3 n (fun i => natV (R i)) ∧ w.heap.size ≤ b ∧ (∀ i, i < n → R i < n) ∧ (∀ i j, i < n → j < n → (R i = R j ↔ Mut n L i j)) ∧ Below w.heap.size w w'
def RootsRel (n B sb cb lb rb : Nat) (uv : Value) (M : List (List Int)) (w : World) (k : Nat) (wr : World) : Prop :=
  ∃ s ov pv, SAt n B sb cb lb rb uv M s ov pv wr ∧ Inv n (useL M) s ∧ s.path = [] ∧ (∀ j, j < k → s.come j ≠ 0) ∧ Below w.heap.size w wr
def StartRel (n : Nat) (uv : Value) (M : List (List Int)) (w : World) (v : Value) (W : World) : Prop :=
  ∃ sb cb lb rb, v = .pointer (some ⟨sb, 0, none⟩) ∧ SAt n w.heap.size sb cb lb rb uv M S.start (.slice none 0 0) (.slice none 0 0) W ∧ Below w.heap.size w W ∧ W.cell? ⟨w.heap.size, 0, none⟩ = some (.int .i64 n)
theorem start_rel {n : Nat} {uv : Value} {M : List (List Int)} {w W : World} (h : MatAt (fun b => b < w.heap.size) w uv M) (hb : Below w.heap.size w W) (sb cb lb rb : Nat)
    (h1 : W.heap[sb]? = some (.cells #[.int .i64 n, uv, .int .i64 0, .slice (some ⟨cb, 0, none⟩) n n, .slice (some ⟨lb, 0, none⟩) n n, .slice none 0 0, .slice none 0 0, .slice (some ⟨rb, 0, none⟩) n n] 47))
    (h2 : W.heap[cb]? = some (.cells (rowA n fun _ => natV 0) 3)) (h3 : W.heap[lb]? = some (.cells (rowA n fun _ => natV 0) 3)) (h4 : W.heap[rb]? = some (.cells (rowA n fun _ => natV 0) 3))
    (h5 : w.heap.size ≤ sb ∧ w.heap.size ≤ cb ∧ w.heap.size ≤ lb ∧ w.heap.size ≤ rb) (h6 : cb ≠ lb ∧ cb ≠ rb ∧ lb ≠ rb) (h7 : W.cell? ⟨w.heap.size, 0, none⟩ = some (.int .i64 n)) : StartRel n uv M w (.pointer (some ⟨sb, 0, none⟩)) W := by
  refine ⟨sb, cb, lb, rb, rfl, ⟨h1, h2, h3, h4, World.ownsRow_nil _ _ _ _, ⟨[], rfl, World.ownsRow_nil _ _ _ _, fun j h => by simp at h⟩, h.on hb, ⟨h5.1, h5.2.1, h5.2.2.1, h5.2.2.2, hb.size⟩, h6, by simp [Value.ownBlock]⟩, hb, h7⟩
theorem alloc_get (w : World) (o : Obj) (k : Nat) : (w.alloc o).heap[k]? = if k = w.heap.size then some o else w.heap[k]? := by
  show (w.heap.push o)[k]? = _
  rw [Array.getElem?_push]
theorem drew_get (w : World) (k : Nat) : w.drew.heap[k]? = w.heap[k]? := rfl
theorem start_pos1 {n ml cu : Nat} {Au : Option Addr} {M : List (List Int)} {w : World} (h : MatAt (fun b => b < w.heap.size) w (.slice Au ml cu) M) (cb lb rb : Nat) (hc : cb = w.heap.size + 1 + 1 ∨ cb = w.heap.size + 1 + 1 + 1 ∨ cb = w.heap.size + 1 + 1 + 1 + 1) (hl : lb = w.heap.size + 1 + 1 ∨ lb = w.heap.size + 1 + 1 + 1 ∨ lb = w.heap.size + 1 + 1 + 1 + 1) (hr : rb = w.heap.size + 1 + 1 ∨ rb = w.heap.size + 1 + 1 + 1 ∨ rb = w.heap.size + 1 + 1 + 1 + 1) (h6 : cb ≠ lb ∧ cb ≠ rb ∧ lb ≠ rb) :
    StartRel n (.slice Au ml cu) M w (.pointer (some ⟨w.heap.size + 1, 0, none⟩)) (((((w.alloc (.cells #[.int .i64 n, .slice Au ml cu] 34)).alloc (.cells #[.int .i64 n, .slice Au ml cu, .int .i64 0, .slice (some ⟨cb, 0, none⟩) n n, .slice (some ⟨lb, 0, none⟩) n n, .slice none 0 0, .slice none 0 0, .slice (some ⟨rb, 0, none⟩) n n] 47)).alloc (.cells (rowA n fun _ => natV 0) 3)).alloc (.cells (rowA n fun _ => natV 0) 3)).alloc (.cells (rowA n fun _ => natV 0) 3)).drew := by
  refine start_rel h ?_ (w.heap.size + 1) cb lb rb ?_ ?_ ?_ ?_ (by omega) h6 ?_
  · exact ((((((Below.refl _ _).alloc (Nat.le_refl _) _).alloc (by simp) _).alloc (by simp; omega) _).alloc (by simp; omega) _).alloc (by simp; omega) _).drew
  · rw [drew_get, alloc_get, alloc_get, alloc_get, alloc_get, alloc_get]
    simp
  · rw [drew_get, alloc_get, alloc_get, alloc_get, alloc_get, alloc_get]
    rcases hc with rfl | rfl | rfl <;> simp
  · rw [drew_get, alloc_get, alloc_get, alloc_get, alloc_get, alloc_get]
    rcases hl with rfl | rfl | rfl <;> simp
  · rw [drew_get, alloc_get, alloc_get, alloc_get, alloc_get, alloc_get]
    rcases hr with rfl | rfl | rfl <;> simp
  · simp [go_sem]
theorem start_pos2 {n ml cu : Nat} {Au : Option Addr} {M : List (List Int)} {w : World} (h : MatAt (fun b => b < w.heap.size) w (.slice Au ml cu) M) (cb lb rb : Nat) (hc : cb = w.heap.size + 1 ∨ cb = w.heap.size + 1 + 1 + 1 ∨ cb = w.heap.size + 1 + 1 + 1 + 1) (hl : lb = w.heap.size + 1 ∨ lb = w.heap.size + 1 + 1 + 1 ∨ lb = w.heap.size + 1 + 1 + 1 + 1) (hr : rb = w.heap.size + 1 ∨ rb = w.heap.size + 1 + 1 + 1 ∨ rb = w.heap.size + 1 + 1 + 1 + 1) (h6 : cb ≠ lb ∧ cb ≠ rb ∧ lb ≠ rb) :
    StartRel n (.slice Au ml cu) M w (.pointer (some ⟨w.heap.size + 1 + 1, 0, none⟩)) (((((w.alloc (.cells #[.int .i64 n, .slice Au ml cu] 34)).alloc (.cells (rowA n fun _ => natV 0) 3)).alloc (.cells #[.int .i64 n, .slice Au ml cu, .int .i64 0, .slice (some ⟨cb, 0, none⟩) n n, .slice (some ⟨lb, 0, none⟩) n n, .slice none 0 0, .slice none 0 0, .slice (some ⟨rb, 0, none⟩) n n] 47)).alloc (.cells (rowA n fun _ => natV 0) 3)).alloc (.cells (rowA n fun _ => natV 0) 3)).drew := by
  refine start_rel h ?_ (w.heap.size + 1 + 1) cb lb rb ?_ ?_ ?_ ?_ (by omega) h6 ?_
  · exact ((((((Below.refl _ _).alloc (Nat.le_refl _) _).alloc (by simp) _).alloc (by simp; omega) _).alloc (by simp; omega) _).alloc (by simp; omega) _).drew
  · rw [drew_get, alloc_get, alloc_get, alloc_get, alloc_get, alloc_get]
    simp
  · rw [drew_get, alloc_get, alloc_get, alloc_get, alloc_get, alloc_get]
    rcases hc with rfl | rfl | rfl <;> simp
  · rw [drew_get, alloc_get, alloc_get, alloc_get, alloc_get, alloc_get]
    rcases hl with rfl | rfl | rfl <;> simp
  · rw [drew_get, alloc_get, alloc_get, alloc_get, alloc_get, alloc_get]
    rcases hr with rfl | rfl | rfl <;> simp
  · simp [go_sem]
theorem start_pos3 {n ml cu : Nat} {Au : Option Addr} {M : List (List Int)} {w : World} (h : MatAt (fun b => b < w.heap.size) w (.slice Au ml cu) M) (cb lb rb : Nat) (hc : cb = w.heap.size + 1 ∨ cb = w.heap.size + 1 + 1 ∨ cb = w.heap.size + 1 + 1 + 1 + 1) (hl : lb = w.heap.size + 1 ∨ lb = w.heap.size + 1 + 1 ∨ lb = w.heap.size + 1 + 1 + 1 + 1) (hr : rb = w.heap.size + 1 ∨ rb = w.heap.size + 1 + 1 ∨ rb = w.heap.size + 1 + 1 + 1 + 1) (h6 : cb ≠ lb ∧ cb ≠ rb ∧ lb ≠ rb) :
    StartRel n (.slice Au ml cu) M w (.pointer (some ⟨w.heap.size + 1 + 1 + 1, 0, none⟩)) (((((w.alloc (.cells #[.int .i64 n, .slice Au ml cu] 34)).alloc (.cells (rowA n fun _ => natV 0) 3)).alloc (.cells (rowA n fun _ => natV 0) 3)).alloc (.cells #[.int .i64 n, .slice Au ml cu, .int .i64 0, .slice (some ⟨cb, 0, none⟩) n n, .slice (some ⟨lb, 0, none⟩) n n, .slice none 0 0, .slice none 0 0, .slice (some ⟨rb, 0, none⟩) n n] 47)).alloc (.cells (rowA n fun _ => natV 0) 3)).drew := by
  refine start_rel h ?_ (w.heap.size + 1 + 1 + 1) cb lb rb ?_ ?_ ?_ ?_ (by omega) h6 ?_
  · exact ((((((Below.refl _ _).alloc (Nat.le_refl _) _).alloc (by simp) _).alloc (by simp; omega) _).alloc (by simp; omega) _).alloc (by simp; omega) _).drew
  · rw [drew_get, alloc_get, alloc_get, alloc_get, alloc_get, alloc_get]
    simp
  · rw [drew_get, alloc_get, alloc_get, alloc_get, alloc_get, alloc_get]
    rcases hc with rfl | rfl | rfl <;> simp
  · rw [drew_get, alloc_get, alloc_get, alloc_get, alloc_get, alloc_get]
    rcases hl with rfl | rfl | rfl <;> simp
  · rw [drew_get, alloc_get, alloc_get, alloc_get, alloc_get, alloc_get]
    rcases hr with rfl | rfl | rfl <;> simp
  · simp [go_sem]
theorem start_pos4 {n ml cu : Nat} {Au : Option Addr} {M : List (List Int)} {w : World} (h : MatAt (fun b => b < w.heap.size) w (.slice Au ml cu) M) (cb lb rb : Nat) (hc : cb = w.heap.size + 1 ∨ cb = w.heap.size + 1 + 1 ∨ cb = w.heap.size + 1 + 1 + 1) (hl : lb = w.heap.size + 1 ∨ lb = w.heap.size + 1 + 1 ∨ lb = w.heap.size + 1 + 1 + 1) (hr : rb = w.heap.size + 1 ∨ rb = w.heap.size + 1 + 1 ∨ rb = w.heap.size + 1 + 1 + 1) (h6 : cb ≠ lb ∧ cb ≠ rb ∧ lb ≠ rb) :
    StartRel n (.slice Au ml cu) M w (.pointer (some ⟨w.heap.size + 1 + 1 + 1 + 1, 0, none⟩)) (((((w.alloc (.cells #[.int .i64 n, .slice Au ml cu] 34)).alloc (.cells (rowA n fun _ => natV 0) 3)).alloc (.cells (rowA n fun _ => natV 0) 3)).alloc (.cells (rowA n fun _ => natV 0) 3)).alloc (.cells #[.int .i64 n, .slice Au ml cu, .int .i64 0, .slice (some ⟨cb, 0, none⟩) n n, .slice (some ⟨lb, 0, none⟩) n n, .slice none 0 0, .slice none 0 0, .slice (some ⟨rb, 0, none⟩) n n] 47)).drew := by
  refine start_rel h ?_ (w.heap.size + 1 + 1 + 1 + 1) cb lb rb ?_ ?_ ?_ ?_ (by omega) h6 ?_
  · exact ((((((Below.refl _ _).alloc (Nat.le_refl _) _).alloc (by simp) _).alloc (by simp; omega) _).alloc (by simp; omega) _).alloc (by simp; omega) _).drew
  · rw [drew_get, alloc_get, alloc_get, alloc_get, alloc_get, alloc_get]
    simp
  · rw [drew_get, alloc_get, alloc_get, alloc_get, alloc_get, alloc_get]
    rcases hc with rfl | rfl | rfl <;> simp
  · rw [drew_get, alloc_get, alloc_get, alloc_get, alloc_get, alloc_get]
    rcases hl with rfl | rfl | rfl <;> simp
  · rw [drew_get, alloc_get, alloc_get, alloc_get, alloc_get, alloc_get]
    rcases hr with rfl | rfl | rfl <;> simp
  · simp [go_sem]
end Go.Proofs.Ythmnghngcbkjpaa
