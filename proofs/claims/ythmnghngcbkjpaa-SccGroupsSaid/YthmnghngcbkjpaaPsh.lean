/- The heap's Push. No conditions but those that each theorem names. -/
import Derived.Test.YthmnghngcbkjpaaUp
namespace Go.Proofs.Ythmnghngcbkjpaa
open Go.RowKit
theorem run_assert_int (x : Int) (W : World) : (Instr.typeAssert (.iface 3 (.int .i64 x)) 20 3 false).run Try.prog W = .ok (.int .i64 x) W := by kernel_rfl
/-- Behind a push: the heap is a' in v'. -/
def AskRes (B ab : Nat) (v : Value) (P : List Nat → Prop) (w w' : World) : Prop :=
  ∃ a v', P a ∧ AskAt B ab a v' w' ∧ Fr (fun b => b = ab ∨ v.ownBlock = some b) w w' ∧ (v'.ownBlock = v.ownBlock ∨ ∃ k, v'.ownBlock = some k ∧ w.heap.size ≤ k)
def PushRes (B ab : Nat) (v : Value) (P : List Nat → Prop) (w : World) (e : Ending) (w' : World) : Prop := e = .returned (.tuple #[]) ∧ AskRes B ab v P w w'
set_option maxRecDepth 100000 in
set_option maxHeartbeats 2000000 in
theorem pushm_any {B ab : Nat} {a : List Nat} {v : Value} {w : World} (h : AskAt B ab a v w) (x : Nat) (ha : a.length ≤ 1099511627776) (hB : B ≤ w.heap.size) :
    Calls Try.prog 53 #[.pointer (some ⟨ab, 0, none⟩), .iface 3 (.int .i64 x)] w (PushRes B ab v (fun a' => a' = a ++ [x]) w) := by
  obtain ⟨i3, hi3, hz3, hs3, hb3⟩ := info_parts Try.info3
  obtain ⟨A, c, rfl, _, _⟩ := own_form h.own
  obtain ⟨c0, f0⟩ := h.cell
  have HO := Lib.hid h.own
  have hab := lt_of_block h.box
  have HMX := Lib.hid (show a.length + 1 ≤ maxLen by unfold maxLen; omega)
  have HBY := Lib.hid (show (a.length + 1) * 8 ≤ 140737488355328 by omega)
  have HBS := Lib.hid hB
  have HFIN : Hid (∀ W : World, W.heap = (w.alloc (.cells #[.int .i64 (x : Int)] 3)).heap ∧ W.os = w.os ∧ W.tape = w.tape ∧ W.output = w.output → ∀ (g cap : Nat) (w3 : World), w3.ownsRow B 3 1 (.slice (some ⟨g, 0, none⟩) (a.length + 1) cap) (a.length + 1) (a.map natV ++ [.int .i64 (x : Int)]) → W.grownBy w3 (Value.slice A a.length c).ownBlock → ((Value.slice A a.length c).ownBlock = some g ∨ g = w.heap.size + 1) →
      w3.cell? ⟨ab, 0, none⟩ = some (.slice A a.length c) ∧ w3.frozen? ⟨ab, 0, none⟩ = false ∧ PushRes B ab (.slice A a.length c) (fun a' => a' = a ++ [x]) w (.returned (.tuple #[])) (w3.setCell ⟨ab, 0, none⟩ (.slice (some ⟨g, 0, none⟩) (a.length + 1) cap))) := by
    refine Lib.hid ?_
    rintro W ⟨e1, e2, e3, e4⟩ g cap w3 h1 h2 h3
    have hba : ∀ k, k < w.heap.size → W.heap[k]? = w.heap[k]? := fun k hk => by
      rw [e1]; exact Below.heap_alloc w (.cells #[.int .i64 (x : Int)] 3) k hk
    have hza : W.heap.size = w.heap.size + 1 := by simp [e1]
    have hbl : ∀ k, k < w.heap.size → (Value.slice A a.length c).ownBlock ≠ some k → w3.heap[k]? = w.heap[k]? := fun k hk hne => (h2.block k (by omega) (fun e => hne e.symm)).trans (hba k hk)
    have habl := hbl ab hab h.ne
    have hne' : some g ≠ some ab := by
      rcases h3 with h3 | h3
      · rw [← h3]; exact h.ne
      · intro e; injection e with e; omega
    refine ⟨(World.cell?_of_block (a := ⟨ab, 0, none⟩) habl).trans c0, (World.frozen?_of_block (a := ⟨ab, 0, none⟩) habl).trans f0, rfl, a ++ [x], _, rfl, ⟨heap_setCell_same w3 ab 0 _ 52 _ (habl.trans h.box), ?_, h.le⟩, ?_, ?_⟩
    · rw [List.length_append, List.length_singleton, List.map_append]
      exact own_keep h1 (fun q hq => Below.heap_setCell _ _ _ _ (fun e => by rw [e] at hq; exact hne' hq))
    · refine ⟨h2.os.trans e2, h2.tape.trans e3, h2.output.trans e4, ?_, fun k hk hk2 => ?_⟩
      · have := h2.size
        simp; omega
      · rw [Below.heap_setCell _ _ _ _ (fun e => hk2 (.inl e))]
        exact hbl k hk (fun e => hk2 (.inr e))
    · rcases h3 with h3 | h3
      · exact .inl h3.symm
      · exact .inr ⟨g, rfl, by omega⟩
  have hta := run_assert_int (x : Int)
  clear h ha hB
  go_enter Try.func53, Try.ntmps53
  go_wp2_with fail
  go_region_law ((refine step_append_lies _ rfl (.tmp 8) (.tmp 11) 50 rfl B 3 i3 (.int .i64 0) 1 8 Try.underlying50 hi3 hz3 hs3 hb3 rfl (by decide) (.slice A a.length c) a.length (a.map natV) rfl ((own_keep HO.out (fun _ _ => rfl)).alloc _) ⟨w.heap.size, 0, none⟩ 1 1 [.int .i64 (x : Int)] rfl rfl (one_new _ _ 3) (by intro u hu; rw [List.mem_singleton.1 hu]; rfl) (by decide) HMX.out HBY.out (by have := HBS.out; simp; omega) (w.heap.size + 1) (by simp) ?_; intro g cap w3 h2 g2 hat _; obtain ⟨q1, q2, q3⟩ := HFIN.out ((w.alloc (.cells #[.int .i64 (x : Int)] 3)).drew) ⟨rfl, rfl, rfl, rfl⟩ g cap w3 h2 g2 hat; have Q3 := Lib.hid q3; clear q3 h2 g2 hat))
  all_goals (go_end0; exact Q3.out)
end Go.Proofs.Ythmnghngcbkjpaa
