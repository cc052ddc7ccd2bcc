/- Less, Swap: rows of numbers. No conditions but those that each theorem names. -/
import Derived.Test.YthmnghngcbkjpaaOMa
import Derived.Test.YthmnghngcbkjpaaHeapM
import Derived.BigRegion
import Derived.Deep.RegionLaw
namespace Go.Proofs.Ythmnghngcbkjpaa
open Go.RowKit
theorem natrow {w : World} {B g c n : Nat} {a : List Nat} (h : w.ownsRow B 3 1 (.slice (some ⟨g, 0, none⟩) n c) n (a.map natV)) (i : Nat) (hi : i < n) : w.cell? ⟨g, i, none⟩ = some (.int .i64 ((a.getD i 0 : Nat) : Int)) := by
  have hl : a.length = n := by have := h.1; simpa using this
  rw [h.cellAt i (by omega), List.getElem?_map, List.getElem?_eq_getElem (by omega), List.getD_eq_getElem?_getD, List.getElem?_eq_getElem (by omega)]
  rfl
set_option maxHeartbeats 1000000 in
theorem less_any {w : World} {B g c n : Nat} {a : List Nat} (h : w.ownsRow B 3 1 (.slice (some ⟨g, 0, none⟩) n c) n (a.map natV)) (i j : Nat) (hi : i < n) (hj : j < n) :
    Calls Try.prog 51 #[.slice (some ⟨g, 0, none⟩) n c, .int .i64 i, .int .i64 j] w fun e w' => e = .returned (.bool (decide (a.getD i 0 < a.getD j 0))) ∧ Below w.heap.size w w' := by
  have ci := natrow h i hi
  have cj := natrow h j hj
  have hii : (i : Int) < (n : Int) := by omega
  have hji : (j : Int) < (n : Int) := by omega
  clear h
  go_enter Try.func51, Try.ntmps51
  go_wp2
  go_quiet (fail)
  go_wp2
  go_ret
  refine ⟨ret_bool ?_, below_drewN (Below.refl _ _) _⟩
  simp
theorem swp_map (a : List Nat) (i j : Nat) : (swp a i j).map natV = ((a.map natV).set i (natV (a.getD j 0))).set j (natV (a.getD i 0)) := by
  unfold swp
  rw [List.map_set, List.map_set]
set_option maxHeartbeats 1000000 in
theorem swap_any {w : World} {B g c n : Nat} {a : List Nat} (h : w.ownsRow B 3 1 (.slice (some ⟨g, 0, none⟩) n c) n (a.map natV)) (i j : Nat) (hi : i < n) (hj : j < n) :
    Calls Try.prog 55 #[.slice (some ⟨g, 0, none⟩) n c, .int .i64 i, .int .i64 j] w fun e w' => e = .returned (.tuple #[]) ∧ w'.ownsRow B 3 1 (.slice (some ⟨g, 0, none⟩) n c) n ((swp a i j).map natV) ∧ Fr (fun b => b = g) w w' := by
  have ci := natrow h i hi
  have cj := natrow h j hj
  have hii : (i : Int) < (n : Int) := by omega
  have hji : (j : Int) < (n : Int) := by omega
  have fi := h.frozenAt i
  have fj := h.frozenAt j
  have hs := own_set (own_set h i (natV (a.getD j 0))) j (natV (a.getD i 0))
  rw [← swp_map a i j] at hs
  have hs2 : (((w.setCell ⟨g, i, none⟩ (natV (a.getD j 0))).setCell ⟨g, j, none⟩ (natV (a.getD i 0))).drew).ownsRow B 3 1 (.slice (some ⟨g, 0, none⟩) n c) n ((swp a i j).map natV) := own_keep hs (fun _ _ => rfl)
  have hf2 : Fr (fun b => b = g) w (((w.setCell ⟨g, i, none⟩ (natV (a.getD j 0))).setCell ⟨g, j, none⟩ (natV (a.getD i 0))).drew) := (((Fr.refl (fun b => b = g) w).setCell (M := fun b => b = g) (b := g) rfl _).setCell (M := fun b => b = g) (b := g) rfl _).drew
  unfold natV at hs2 hf2
  have HS := Lib.hid hs2
  have HF := Lib.hid hf2
  clear h hs hs2 hf2
  by_cases e : i = j
  · subst e
    go_enter Try.func55, Try.ntmps55
    go_wp2
    go_region
    all_goals (go_end0; exact ⟨rfl, HS.out, HF.out⟩)
  · have e2 : ¬ j = i := fun e' => e e'.symm
    go_enter Try.func55, Try.ntmps55
    go_wp2
    go_region
    all_goals (go_end0; exact ⟨rfl, HS.out, HF.out⟩)
end Go.Proofs.Ythmnghngcbkjpaa
