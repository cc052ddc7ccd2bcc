/- Slices of numbers, as a call is handed them. No conditions but those that each theorem names. -/
import Derived.Test.YtjfhncbfbhkhgaaMem
import Derived.ProofKit
import Derived.OpenShut
namespace Go.Proofs.Ytjfhncbfbhkhgaa
open Go.RowKit

/-- A slice that reads as some numbers. -/
def SomeInts (w : World) (v : Value) : Prop := ∃ zs, IntsAt (fun b => b < w.heap.size) w v zs
theorem ints_of_cells {W : World} (x : Addr) (len cap : Nat) (zs : List Int) (hl : len ≤ cap) (hm : cap ≤ maxLen) (hz : zs.length = cap) (hcell : ∀ i, i < zs.length → W.cell? (x.add i) = some (.int .i64 (zs.getD i 0))) (hwz : ∀ n ∈ zs, (Lit.int .i64 n).wf = true) :
    IntsAt (fun b => b < W.heap.size) W (.slice (some x) len cap) (zs.take len) := by
  have hlen : (zs.take len).length = len := by rw [List.length_take]; omega
  refine ⟨some x, cap, by rw [hlen], by omega, hm, fun z hz => ?_, ?_⟩
  · have := Go.bounds_i64 (hwz z (List.mem_of_mem_take hz)); omega
  · rcases Nat.eq_zero_or_pos len with h0 | h0
    · subst h0; exact .inl (by simp)
    · obtain ⟨b, off, spot⟩ := x
      have hc := hcell 0 (by omega)
      have hspot : spot = none := by simpa [Addr.add] using World.cell?_spot hc
      subst hspot
      have hb : b < W.heap.size := by
        have := World.block_lt_of_cell? W _ hc
        simpa [Addr.add] using this
      refine .inr ⟨b, off, rfl, hb, hb, fun i hi => ?_⟩
      have h9 := hcell i (by omega)
      rw [Go.WideShapes.add_plain] at h9
      rw [h9, List.getD_eq_getElem?_getD, List.getElem?_eq_getElem (by omega)]
      simp
theorem someInts_nil (W : World) : SomeInts W (.slice none 0 0) := ⟨[], none, 0, rfl, Nat.le_refl _, Nat.zero_le _, fun z hz => absurd hz (by simp), .inl rfl⟩
end Go.Proofs.Ytjfhncbfbhkhgaa
