/- The contract of types.each (chapter 4), for whatever function is told of each part. Conditions: those that each theorem names. -/
import Derived.Test.YtbdfjboojokgdaaGreatDoorM10
import Derived.Test.YtbdfjboojokgdaaGreatDoorM11
namespace Go.Proofs.YtbdfjboojokgdaaGreatDoor
open Go.RowKit

/-- A type and all that stands in it, from the outside and the left. -/
def Ty.nodes : Ty → List Ty
  | .app a b => .app a b :: (a.nodes ++ b.nodes)
  | .all s a => .all s a :: a.nodes
  | t => [t]
def nodesL (l : List Ty) : List Ty := (l.map Ty.nodes).flatten
theorem nodes_args (t : Ty) : t.nodes = t :: nodesL t.args := by
  cases t <;> simp [Ty.nodes, nodesL, Ty.args]
theorem nodesL_take {l : List Ty} {k : Nat} (h : k < l.length) : nodesL (l.take (k + 1)) = nodesL (l.take k) ++ l[k].nodes := by
  unfold nodesL; rw [List.take_succ_eq_append_getElem h, List.map_append, List.flatten_append]; simp
theorem nodes_len : ∀ t : Ty, t.nodes.length = t.sz
  | .app a b => by simp [Ty.nodes, Ty.sz, nodes_len a, nodes_len b]
  | .all _ a => by simp [Ty.nodes, Ty.sz, nodes_len a]
  | .hole _ => rfl
  | .var _ => rfl
  | .con _ => rfl
theorem nodesL_len (l : List Ty) : (nodesL l).length = sumSz l := by
  induction l with
  | nil => rfl
  | cons a r ih => unfold nodesL sumSz at *; simp [ih, nodes_len]
/-- Blocks other than those that a state owns stay; it comes to own new ones alone. -/
structure FrM (M : World → Nat → Prop) (w w' : World) : Prop where
  os : w'.os = w.os
  tape : w'.tape = w.tape
  output : w'.output = w.output
  size : w.heap.size ≤ w'.heap.size
  block : ∀ k, k < w.heap.size → ¬ M w k → w'.heap[k]? = w.heap[k]?
  own : ∀ k, k < w.heap.size → M w' k → M w k
theorem FrM.trans {M : World → Nat → Prop} {a b c : World} (h : FrM M a b) (g : FrM M b c) : FrM M a c :=
  ⟨g.os.trans h.os, g.tape.trans h.tape, g.output.trans h.output, Nat.le_trans h.size g.size,
    fun k hk hn => (g.block k (Nat.lt_of_lt_of_le hk h.size) (fun hm => hn (h.own k hk hm))).trans (h.block k hk hn),
    fun k hk hm => h.own k hk (g.own k (Nat.lt_of_lt_of_le hk h.size) hm)⟩
theorem FrM.of_below {M : World → Nat → Prop} {w w' : World} (h : Below w.heap.size w w') (ho : ∀ k, k < w.heap.size → M w' k → M w k) : FrM M w w' :=
  ⟨h.os, h.tape, h.output, h.size, fun k hk _ => h.block k hk, ho⟩
theorem FrM.below {M : World → Nat → Prop} {w w' : World} {B : Nat} (h : FrM M w w') (hB : B ≤ w.heap.size) (hM : ∀ k, M w k → B ≤ k) : Below B w w' :=
  ⟨h.os, h.tape, h.output, h.size, fun k hk => h.block k (by omega) (fun hm => by have := hM k hm; omega)⟩
/-- What a function that is told of each part keeps: a state that hangs on the parts that were told. -/
structure Told (base : Nat) (M : World → Nat → Prop) (St : List Ty → World → Prop) : Prop where
  new : ∀ l w o, St l w → St l (w.alloc o)
  drew : ∀ l w, St l w → St l w.drew
  own : ∀ l w o k, St l w → M (w.alloc o) k → M w k
  lt : ∀ l w k, St l w → M w k → k < w.heap.size
  base : ∀ l w k, St l w → M w k → base ≤ k
theorem Told.keeps {base : Nat} {M : World → Nat → Prop} {St : List Ty → World → Prop} (hT : Told base M St) {l : List Ty} {w w' : World} (hs : St l w) (h : FrM M w w') : Keeps (fun b => b < base) w w' :=
  ⟨h.size, fun b off hb hlt => World.cell?_of_block (a := ⟨b, off, none⟩) (h.block b hlt (fun hm => by have := hT.base l w b hs hm; omega))⟩
/-- A box that the state does not own stays. -/
theorem Box4.frM {M : World → Nat → Prop} {w w' : World} {b : Nat} {a0 a1 a2 a3 : Value} (h : Box4 w b a0 a1 a2 a3) (hf : FrM M w w') (hn : ¬ M w b) : Box4 w' b a0 a1 a2 a3 := by
  obtain ⟨h0, h1, h2, h3, h4, f1, f2, f3, f4⟩ := h
  have hb := hf.block b h0 hn
  have hc : ∀ o, w'.cell? ⟨b, o, none⟩ = w.cell? ⟨b, o, none⟩ := fun o => World.cell?_of_block (a := ⟨b, o, none⟩) hb
  have hz : ∀ o, w'.frozen? ⟨b, o, none⟩ = w.frozen? ⟨b, o, none⟩ := fun o => by simp [World.frozen?, hb]
  exact ⟨Nat.lt_of_lt_of_le h0 hf.size, (hc 0).trans h1, (hc 1).trans h2, (hc 2).trans h3, (hc 3).trans h4, (hz 0).trans f1, (hz 1).trans f2, (hz 2).trans f3, (hz 3).trans f4⟩
end Go.Proofs.YtbdfjboojokgdaaGreatDoor
