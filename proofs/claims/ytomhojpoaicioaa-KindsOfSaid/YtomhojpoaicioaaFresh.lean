/- The contracts of the solver's New and Fresh. Conditions: those that each theorem names. -/
import Derived.Test.YtomhojpoaicioaaFlat
namespace Go.Proofs.Ytomhojpoaicioaa
open Go.RowKit

/-- What New answered: a solver that knows nothing, in new blocks. -/
def NewRes (w : World) (e : Ending) (w' : World) : Prop := ∃ sb mb, e = .returned (.pointer (some ⟨sb, 0, none⟩)) ∧ w.heap.size ≤ sb ∧ w.heap.size ≤ mb ∧ sb ≠ mb ∧ (∀ P, SolAt P w' sb mb 0 0 (fun _ => none)) ∧ Below w.heap.size w w'
set_option maxRecDepth 100000 in
set_option maxHeartbeats 1000000 in
theorem new_any (w : World) : Calls Try.prog 22 #[] w (NewRes w) := by
  have hmm := @run_makeMap Try.prog
  go_enter Try.func22, Try.ntmps22
  go_wp2
  go_ret
  have hb1 := below_new w (.map #[] 0)
  have hb2 := hb1.alloc hb1.size (.cells #[.int .i64 0, .map (some w.heap.size)] 85)
  have hM := (MapI.made Try.prog 3 w).on (below_new (w.alloc (.map #[] 0)) (.cells #[.int .i64 0, .map (some w.heap.size)] 85))
  refine ⟨w.heap.size + 1, w.heap.size, rfl, Nat.le_succ _, Nat.le_refl _, by omega, fun P => ⟨by simp [go_sem], by simp [go_sem], by simp [go_sem], by simp, ⟨_, hM, fun _ => rfl⟩⟩, hb2⟩
set_option maxRecDepth 100000 in
set_option maxHeartbeats 1000000 in
theorem fresh_any (P : Nat → Prop) (w : World) (sb mb sz : Nat) (made : Int) (kn : Kn) (h : SolAt P w sb mb sz made kn) (hP : ¬ P sb) (hmb : mb ≠ sb) (hm0 : 0 ≤ made) (hm : made < 1000000) :
    Calls Try.prog 23 #[.pointer (some ⟨sb, 0, none⟩)] w fun e w' => e = .returned (.agg #[.int .i64 1, .int .i64 (made + 1), .slice none 0 0]) ∧ SolAt P w' sb mb sz (made + 1) kn ∧ (∀ b, b < w.heap.size → b ≠ sb → w'.heap[b]? = w.heap[b]?) ∧ w.heap.size ≤ w'.heap.size := by
  have s0 := h.c0
  have s1 := h.c1
  have sf := h.f0
  have slt := h.lt
  have HS := Lib.hid h
  clear h
  go_enter Try.func23, Try.ntmps23
  go_wp2_with fail
  have hS1 : SolAt P (w.setCell ⟨sb, 0, none⟩ (.int .i64 (made + 1))) sb mb sz (made + 1) kn := by
    have h := HS.out
    refine ⟨by simp [go_sem, s0], by simp [go_sem, s1], by simp [go_sem, sf], by simpa using slt, ?_⟩
    obtain ⟨f, hM, hf⟩ := h.known
    refine ⟨f, hM.setCell hmb _, fun x => ?_⟩
    have h9 := hf x
    cases e : kn x with
    | none => rw [e] at h9; exact h9
    | some t => rw [e] at h9; obtain ⟨v, e1, e2⟩ := h9; exact ⟨v, e1, e2.keep (.setCell hP _)⟩
  have hblk : ∀ b, b ≠ sb → (w.setCell ⟨sb, 0, none⟩ (.int .i64 (made + 1))).heap[b]? = w.heap[b]? := fun b hb => Below.heap_setCell _ _ _ _ (fun e => hb (by have e' : b = sb := e; exact e'))
  have hz1 : (w.setCell ⟨sb, 0, none⟩ (.int .i64 (made + 1))).heap.size = w.heap.size := by simp
  generalize w.setCell ⟨sb, 0, none⟩ (.int .i64 (made + 1)) = w1 at *
  have hb2 := below_new w1 (.cells #[.int .i64 0, .int .i64 0, .slice none 0 0] 49)
  have r0 : (w1.alloc (.cells #[.int .i64 0, .int .i64 0, .slice none 0 0] 49)).cell? ⟨w1.heap.size, 0, none⟩ = some (.int .i64 0) := by simp [go_sem]
  have r1 : (w1.alloc (.cells #[.int .i64 0, .int .i64 0, .slice none 0 0] 49)).cell? ⟨w1.heap.size, 1, none⟩ = some (.int .i64 0) := by simp [go_sem]
  have r2 : (w1.alloc (.cells #[.int .i64 0, .int .i64 0, .slice none 0 0] 49)).cell? ⟨w1.heap.size, 2, none⟩ = some (.slice none 0 0) := by simp [go_sem]
  have fz : ∀ i, (w1.alloc (.cells #[.int .i64 0, .int .i64 0, .slice none 0 0] 49)).frozen? ⟨w1.heap.size, i, none⟩ = false := fun i => by simp [go_sem]
  have hz2 : w1.heap.size < (w1.alloc (.cells #[.int .i64 0, .int .i64 0, .slice none 0 0] 49)).heap.size := by simp
  rw [hz1] at r0 r1 r2 fz hz2
  generalize w1.alloc (.cells #[.int .i64 0, .int .i64 0, .slice none 0 0] 49) = w2 at *
  refine (variable_any _ _).mono ?_
  rintro e w5 ⟨rfl, hb5⟩
  have g0 := (hb5.cell (p := ⟨w.heap.size, 0, none⟩) hz2).trans r0
  have g1 := (hb5.cell (p := ⟨w.heap.size, 1, none⟩) hz2).trans r1
  have g2 := (hb5.cell (p := ⟨w.heap.size, 2, none⟩) hz2).trans r2
  have h0 := (hb5.frozen (p := ⟨w.heap.size, 0, none⟩) hz2).trans (fz 0)
  have h1 := (hb5.frozen (p := ⟨w.heap.size, 1, none⟩) hz2).trans (fz 1)
  have h2 := (hb5.frozen (p := ⟨w.heap.size, 2, none⟩) hz2).trans (fz 2)
  have hb := hb2.trans (hb5.mono hb2.size)
  have hb6 := ((hb.setCell (p := ⟨w.heap.size, 0, none⟩) (Nat.le_of_eq hz1) (.int .i64 1)).setCell (p := ⟨w.heap.size, 1, none⟩) (Nat.le_of_eq hz1) (.int .i64 (made + 1))).setCell (p := ⟨w.heap.size, 2, none⟩) (Nat.le_of_eq hz1) (.slice none 0 0)
  have HB6 := Lib.hid hb6
  have HS1 := Lib.hid hS1
  have HBLK := Lib.hid hblk
  have HZ1 := Lib.hid hz1
  clear hb hb2 hb5 hb6 r0 r1 r2 fz hS1 hblk hz1 s0 s1 sf
  go_wp2
  refine bodyPost_ret (v := .agg #[.int .i64 1, .int .i64 (made + 1), .slice none 0 0]) (by simp [results, Try.results23, go_sem, g0, g1, g2]) rfl ⟨rfl, HS1.out.on HB6.out, fun b hlt hne => (HB6.out.block b (by rw [HZ1.out]; exact hlt)).trans (HBLK.out b hne), by have := HB6.out.size; rw [HZ1.out] at this; exact this⟩
end Go.Proofs.Ytomhojpoaicioaa
