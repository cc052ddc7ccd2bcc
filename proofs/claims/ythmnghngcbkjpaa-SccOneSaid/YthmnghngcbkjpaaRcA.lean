/- What the program's Reaches knows: a row of what is left, a map of what was seen. No conditions but those that each theorem names. -/
import Derived.Test.YthmnghngcbkjpaaMpI
import Derived.Test.YthmnghngcbkjpaaLdsB
import Derived.Test.YthmnghngcbkjpaaSea
namespace Go.Proofs.Ythmnghngcbkjpaa
open Go.RowKit
/-- What has been seen, as a map's entries. -/
def seenF (S : Int → Bool) : Int → Option Value := fun x => if S x then some (.bool true) else none
theorem zero4 (y : World) : (zeroValue 4).run Try.prog y = .ok (.bool false) y := by kernel_rfl
theorem seen_look {w : World} {xb sz : Nat} {S : Int → Bool} (h : MapI Try.prog 3 w xb sz (seenF S)) {x : Int} (h1 : -9223372036854775808 ≤ x) (h2 : x ≤ 9223372036854775807) : (Instr.lookup 43 (.map (some xb)) (.int .i64 x) false).run Try.prog w = .ok (.bool (S x)) w := by
  have h9 := h.look Try.underlying3 Try.underlying43 zero4 h1 h2
  rw [h9]
  unfold seenF
  cases S x <;> rfl
theorem seen_set (S : Int → Bool) (m : Int) : setF (seenF S) m (some (.bool true)) = seenF (mark S m) := by
  funext y
  unfold setF seenF mark
  by_cases e : y = m
  · simp [e]
  · simp [e]
section
variable {P : Program} {k t e : TypeId} {w : World} {b sz : Nat} {f : Int → Option Value}
/-- An entry of a map that is being made, at the operation. -/
theorem wpList_insertI {ops : Array Oper} {rest : List Oper} {o : Oper} {a : Act} {Q : Exit → Act → World → Prop} (hg : o.guard = none) (m x v : Operand) (hop : o.op = Op.insert t m x v) (hk : P.underlying k = some (.int .i64)) (ht : P.underlying t = some (.map k e))
    (hm : a.eval m = .map (some b)) (h : MapI P k w b sz f) (hn : sz < maxLen) (xi : Int) (hx : a.eval x = .int .i64 xi) (val : Value) (hv : a.eval v = val) (h1 : -9223372036854775808 ≤ xi) (h2 : xi ≤ 9223372036854775807)
    (hK : ∀ w', MapI P k w' b (if (f xi).isSome then sz else sz + 1) (setF f xi (some val)) → w.grownBy w' (some b) → wpList P ops Q rest (a.put o.dst undef) w') : wpList P ops Q (o :: rest) a w := by
  refine wpList_plain hg fun K' hK' => ?_
  obtain ⟨w', hrun, r1, r2⟩ := h.store hk ht hn val h1 h2
  unfold Oper.wp
  simp [execOp, hop, hm, hx, hv, hrun, Result.andThen]
  exact hK' _ _ (hK w' r1 r2)
end
theorem IntsAt.move2 {B : Nat} {w w' : World} {v : Value} {zs : List Int} (h : IntsAt (fun b => b < B) w v zs) (hB : B ≤ w'.heap.size) (hb : ∀ b, b < B → w'.heap[b]? = w.heap[b]?) : IntsAt (fun b => b < B) w' v zs := by
  obtain ⟨A, c, e, h1, h2, h3, hr⟩ := h
  refine ⟨A, c, e, h1, h2, h3, ?_⟩
  rcases hr with hr | ⟨b, off, e, hp, hlt, hc⟩
  · exact .inl hr
  · exact .inr ⟨b, off, e, hp, by omega, fun i hi => (World.cell?_of_block (a := ⟨b, off + i, none⟩) (hb b hp)).trans (hc i hi)⟩
structure LeftAt (w : World) (n : Nat) (uv : Value) (mb : Nat) (S : Int → Bool) (left : List Nat) (v : Value) (wr : World) : Prop where
  own : wr.ownsRow w.heap.size 3 1 v left.length (left.map natV)
  map : ∃ sz, MapI Try.prog 3 wr mb sz (seenF S) ∧ sz ≤ cnt n (pN S)
  box : wr.heap[w.heap.size]? = some (.cells #[.int .i64 n, uv] 34)
  mblt : w.heap.size ≤ mb
  below : Below w.heap.size w wr
section
variable {w wr : World} {n mb : Nat} {uv v : Value} {S : Int → Bool} {left : List Nat}
theorem LeftAt.on (h : LeftAt w n uv mb S left v wr) {w' : World} (hb : Below wr.heap.size wr w') : LeftAt w n uv mb S left v w' := by
  obtain ⟨sz, h1, h2⟩ := h.map
  exact ⟨own_on h.own hb, ⟨sz, h1.on hb, h2⟩, (hb.block _ (lt_of_block h.box)).trans h.box, h.mblt, h.below.trans (hb.mono h.below.size)⟩
theorem MapI.notRow {P : Program} {k : TypeId} {b sz : Nat} {f : Int → Option Value} (h : MapI P k wr b sz f) {cs : Array Value} {e : TypeId} : wr.heap[b]? ≠ some (.cells cs e) := by
  obtain ⟨D, ⟨es, clock, hb, _⟩, _⟩ := h
  rw [hb]; intro e; injection e with e; cases e
theorem LeftAt.pop {a : Nat} {A : Option Addr} {c : Nat} (h : LeftAt w n uv mb S (left ++ [a]) (.slice A (left.length + 1) c) wr) : LeftAt w n uv mb S left (.slice A left.length c) wr := by
  have ho := h.own
  rw [List.length_append, List.length_singleton, List.map_append] at ho
  have h9 := own_shorter ho left.length (by omega) (by omega)
  refine ⟨?_, h.map, h.box, h.mblt, h.below⟩
  have e : (left.map natV ++ [a].map natV).take (left.length * 1) = left.map natV := by
    rw [Nat.mul_one, List.take_append_of_le_length (by simp)]; exact List.take_of_length_le (by simp)
  rw [e] at h9; exact h9
theorem LeftAt.marked (h : LeftAt w n uv mb S left v wr) {z : Nat} (hz : z < n) (hS : S (z : Int) = false) (hn : n ≤ 1000) :
    ∃ sz, MapI Try.prog 3 wr mb sz (seenF S) ∧ sz < maxLen ∧ ∀ w', MapI Try.prog 3 w' mb (if (seenF S (z : Int)).isSome then sz else sz + 1) (setF (seenF S) (z : Int) (some (.bool true))) → wr.grownBy w' (some mb) → LeftAt w n uv mb (mark S (z : Int)) left v w' := by
  obtain ⟨sz, h1, h2⟩ := h.map
  have hc := cnt_le n (pN S)
  refine ⟨sz, h1, by unfold maxLen; omega, fun w' hm hg => ?_⟩
  rw [seen_set] at hm
  have hne : seenF S (z : Int) = none := by simp [seenF, hS]
  rw [hne] at hm
  have hrow : ∀ g, v.ownBlock = some g → some g ≠ some mb := fun g hgv e => by
    injection e with e
    obtain ⟨cur, h9⟩ := own_type h.own hgv
    rw [e] at h9; exact h1.notRow h9
  refine ⟨own_keep h.own (fun g hgv => hg.block g (h.own.lt g hgv).2 (hrow g hgv)), ⟨sz + 1, by simpa using hm, ?_⟩, ?_, h.mblt, h.below.grown hg h.below.size (fun q hq => by injection hq with hq; have := h.mblt; omega)⟩
  · rw [pN_mark, cnt_upd hz (by simpa [pN] using hS)]; omega
  · have hlt := lt_of_block h.box
    refine (hg.block _ hlt (fun e => ?_)).trans h.box
    injection e with e
    exact h1.notRow (e ▸ h.box)
/-- One more is left to go through: behind an append. -/
theorem LeftAt.push (h : LeftAt w n uv mb S left v wr) (z : Nat) {W w3 : World} (hW : Below wr.heap.size wr W) {v' : Value} (ho : w3.ownsRow w.heap.size 3 1 v' (left.length + 1) (left.map natV ++ [natV z])) (hg : W.grownBy w3 v.ownBlock) : LeftAt w n uv mb S (left ++ [z]) v' w3 := by
  have h2 := h.on hW
  obtain ⟨sz, m1, m2⟩ := h2.map
  refine ⟨by simpa using ho, ⟨sz, m1.kept hg (fun e => ?_), m2⟩, ?_, h.mblt, h2.below.grown hg h2.below.size (fun q hq => (h2.own.lt q hq).1)⟩
  · obtain ⟨cur, h9⟩ := own_type h2.own e.symm
    exact m1.notRow h9
  · refine (hg.block _ (lt_of_block h2.box) (fun e => ?_)).trans h2.box
    exact own_not h2.own h2.box (by decide) e.symm
end
end Go.Proofs.Ythmnghngcbkjpaa
