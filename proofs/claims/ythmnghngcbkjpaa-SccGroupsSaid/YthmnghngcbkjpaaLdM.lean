/- The document's table of who leads to whom, in memory. No conditions but those that each theorem names. -/
import Derived.Test.YthmnghngcbkjpaaLdsB
import Derived.Test.YthmnghngcbkjpaaTol
namespace Go.Proofs.Ythmnghngcbkjpaa
open Go.RowKit
theorem Try.info41 : (Try.prog.info? 41).map (fun i => (i.zero, i.size, i.bytes)) = some (some (.slice none 0 0), 1, 24) := by kernel_rfl
theorem make_rowsB (m : Nat) (hm : m ≤ 1099511627776) (W : World) : (Instr.makeSlice 40 (.int .i64 (m : Int)) (.int .i64 (m : Int))).run Try.prog W = .ok (.slice (some ⟨W.heap.size, 0, none⟩) m m) (W.alloc (.cells (rowA m (fun _ => .slice none 0 0)) 41)) := by
  have h := run_make_row' (P := Try.prog) 40 41 (.slice none 0 0) 24 Try.underlying40 Try.info41 rfl .i64 .i64 m (by omega) (by omega) W
  rw [made_row2] at h
  exact h
def rowsV (rb : Nat → Nat) (n m : Nat) (j : Nat) : Value := if j < m then .slice (some ⟨rb j, 0, none⟩) n n else .slice none 0 0
structure LdM (B lb n m : Nat) (rb : Nat → Nat) (q : Nat → Nat → Bool) (wr : World) : Prop where
  out : RowAt wr lb 41 n (rowsV rb n m)
  rows : ∀ j, j < m → RowAt wr (rb j) 4 n (fun k => boolV (q j k))
  lo : B ≤ lb ∧ ∀ j, j < m → B ≤ rb j
  sep : ∀ j j', j < m → j' < m → rb j = rb j' → j = j'
section
variable {B lb n m : Nat} {rb : Nat → Nat} {q : Nat → Nat → Bool} {w wr : World}
theorem LdM.keep (h : LdM B lb n m rb q wr) {w' : World} (hb : ∀ b, b < wr.heap.size → w'.heap[b]? = wr.heap[b]?) : LdM B lb n m rb q w' :=
  ⟨h.out.block (hb _ h.out.lt), fun j hj => (h.rows j hj).block (hb _ (h.rows j hj).lt), h.lo, h.sep⟩
theorem LdM.on (h : LdM B lb n m rb q wr) {w' : World} (hb : Below wr.heap.size wr w') : LdM B lb n m rb q w' := h.keep (fun b hl => hb.block b hl)
theorem LdM.same (h : LdM B lb n m rb q wr) {q' : Nat → Nat → Bool} (e : ∀ j k, j < m → k < n → q j k = q' j k) : LdM B lb n m rb q' wr :=
  ⟨h.out, fun j hj => (h.rows j hj).same (fun k hk => by rw [e j k hj hk]), h.lo, h.sep⟩
theorem LdM.cellO (h : LdM B lb n m rb q wr) {j : Nat} (hj : j < n) (hm : j < m) : wr.cell? ⟨lb, j, none⟩ = some (.slice (some ⟨rb j, 0, none⟩) n n) := by
  have := h.out.cell hj
  unfold rowsV at this
  rw [if_pos hm] at this; exact this
theorem LdM.cellI (h : LdM B lb n m rb q wr) {j k : Nat} (hm : j < m) (hk : k < n) : wr.cell? ⟨rb j, k, none⟩ = some (.bool (q j k)) := (h.rows j hm).cell hk
theorem LdM.start (lb : Nat) (hlb : B ≤ lb) (h : RowAt wr lb 41 n (fun _ => .slice none 0 0)) : LdM B lb n 0 (fun _ => 0) q wr :=
  ⟨h.same (fun i _ => by simp [rowsV]), fun j hj => by omega, ⟨hlb, fun j hj => by omega⟩, fun j j' hj => by omega⟩
/-- One more row, of nothing. -/
theorem LdM.more (h : LdM B lb n m rb q wr) (hB : B ≤ wr.heap.size) (hq : ∀ k, k < n → q m k = false) :
    LdM B lb n (m + 1) (upd rb m wr.heap.size) q ((wr.alloc (.cells (rowA n fun _ => boolV false) 4)).setCell ⟨lb, m, none⟩ (.slice (some ⟨wr.heap.size, 0, none⟩) n n)) := by
  have hlb := h.out.lt
  have ho : RowAt (wr.alloc (.cells (rowA n fun _ => boolV false) 4)) lb 41 n (rowsV rb n m) := h.out.block (Below.heap_alloc wr _ lb hlb)
  refine ⟨(ho.set m (.slice (some ⟨wr.heap.size, 0, none⟩) n n)).same (fun i hi => ?_), fun j hj => ?_, ⟨h.lo.1, fun j hj => ?_⟩, fun j j' hj hj' e => ?_⟩
  · unfold rowsV
    by_cases e : i = m
    · subst e; rw [upd_same, upd_same, if_pos (by omega)]
    · rw [upd_other _ e, upd_other _ e]
      by_cases e2 : i < m
      · rw [if_pos e2, if_pos (by omega)]
      · rw [if_neg e2, if_neg (by omega)]
  · by_cases e : j = m
    · subst e
      rw [upd_same]
      refine RowAt.block (w := wr.alloc (.cells (rowA n fun _ => boolV false) 4)) (RowAt.same (g := fun _ => boolV false) (by show _ = _; rw [alloc_get2]; simp) (fun k hk => by rw [hq k hk])) (Below.heap_setCell _ _ _ _ (by simp; omega))
    · rw [upd_other _ e]
      have hr := h.rows j (by omega)
      have hne : rb j ≠ lb := fun e9 => by
        have h1 := h.out
        unfold RowAt at hr h1
        rw [e9, h1] at hr
        injection hr with hr; injection hr with _ hr; cases hr
      exact (hr.block (Below.heap_alloc wr _ _ hr.lt)).block (Below.heap_setCell _ _ _ _ (by simpa using hne))
  · by_cases e : j = m
    · subst e; rw [upd_same]; exact hB
    · rw [upd_other _ e]; exact h.lo.2 j (by omega)
  · by_cases e1 : j = m
    · by_cases e2 : j' = m
      · omega
      · subst e1
        rw [upd_same, upd_other _ e2] at e
        have := (h.rows j' (by omega)).lt
        omega
    · by_cases e2 : j' = m
      · subst e2
        rw [upd_same, upd_other _ e1] at e
        have := (h.rows j (by omega)).lt
        omega
      · rw [upd_other _ e1, upd_other _ e2] at e
        exact h.sep j j' (by omega) (by omega) e
/-- A cell of a row is written. -/
theorem LdM.put (h : LdM B lb n m rb q wr) {i k : Nat} (hi : i < m) (v : Bool) : LdM B lb n m rb (fun j x => if j = i ∧ x = k then v else q j x) (wr.setCell ⟨rb i, k, none⟩ (boolV v)) := by
  have hri := h.rows i hi
  refine ⟨h.out.block (Below.heap_setCell _ _ _ _ (fun e9 => ?_)), fun j hj => ?_, h.lo, h.sep⟩
  · have h1 := h.out
    simp at e9
    unfold RowAt at hri h1
    rw [← e9, h1] at hri
    injection hri with hri; injection hri with _ hri; cases hri
  · by_cases e : j = i
    · subst e
      refine (hri.set k (boolV v)).same (fun x _ => ?_)
      by_cases e2 : x = k
      · subst e2; rw [upd_same, if_pos ⟨rfl, rfl⟩]
      · rw [upd_other _ e2, if_neg (fun e => e2 e.2)]
    · refine ((h.rows j hj).block (Below.heap_setCell _ _ _ _ (fun e9 => e (h.sep j i hj hi (by simpa using e9))))).same (fun x _ => ?_)
      rw [if_neg (fun e9 => e e9.1)]
end
end Go.Proofs.Ythmnghngcbkjpaa
