/- A walk in memory: what is kept, what a store does. No conditions but those that each theorem names. -/
import Derived.Test.YtjfhncbfbhkhgaaMem
import Derived.Test.YtjfhncbfbhkhgaaMapS
import Derived.Test.YtjfhncbfbhkhgaaWalkM
namespace Go.Proofs.Ytjfhncbfbhkhgaa
open Go.RowKit
/-- What was come to: a map. -/
def SeenAt (w : World) (sb : Nat) (seen : List ByteArray) : Prop := ∃ sz f, MapS Try.prog 9 w sb sz f ∧ ∀ x, f x = if x ∈ seen then some (.bool true) else none
theorem SeenAt.block {w w' : World} {sb : Nat} {seen : List ByteArray} (h : SeenAt w sb seen) (hb : w'.heap[sb]? = w.heap[sb]?) : SeenAt w' sb seen := by
  obtain ⟨sz, f, h1, h2⟩ := h; exact ⟨sz, f, h1.block hb, h2⟩
theorem SeenAt.lt {w : World} {sb : Nat} {seen : List ByteArray} (h : SeenAt w sb seen) : sb < w.heap.size := by obtain ⟨sz, f, h1, _⟩ := h; exact h1.lt
theorem SeenAt.noCell {w : World} {sb : Nat} {seen : List ByteArray} (h : SeenAt w sb seen) {cs : Array Value} {t : TypeId} {fr : Nat × Nat} : w.heap[sb]? ≠ some (.cells cs t fr) := by
  obtain ⟨sz, f, ⟨D, ⟨es, clock, hb, _⟩, _⟩, _⟩ := h
  rw [hb]; intro e; injection e with e; cases e
theorem SeenAt.le {w : World} {sb sz : Nat} {f : ByteArray → Option Value} {seen : List ByteArray} (h1 : MapS Try.prog 9 w sb sz f) (h2 : ∀ x, f x = if x ∈ seen then some (.bool true) else none) : sz ≤ seen.length := by
  obtain ⟨ks, hn, hl, hk⟩ := h1.keys
  rw [← hl]
  refine nodup_leS hn (fun x hx => ?_)
  have := (hk x).1 hx
  rw [h2 x] at this
  by_cases h : x ∈ seen
  · exact h
  · rw [if_neg h] at this; exact absurd rfl this
def pcells (p : List (ByteArray × List ByteArray)) (vs : List Value) : List Value := (List.zipWith (fun (a : ByteArray × List ByteArray) v => [Value.string a.1, v]) p vs).flatten
theorem pcells_snoc (p : List (ByteArray × List ByteArray)) (vs : List Value) (x : ByteArray × List ByteArray) (v : Value) (h : vs.length = p.length) : pcells (p ++ [x]) (vs ++ [v]) = pcells p vs ++ [Value.string x.1, v] := by
  unfold pcells
  rw [List.zipWith_append h.symm]
  simp
theorem pcells_length (p : List (ByteArray × List ByteArray)) (vs : List Value) (h : vs.length = p.length) : (pcells p vs).length = p.length * 2 := by
  induction p generalizing vs with
  | nil => simp [pcells]
  | cons a p ih =>
    cases vs with
    | nil => simp at h
    | cons v vs =>
      have := ih vs (by simpa using h)
      unfold pcells at this ⊢
      simp only [List.zipWith_cons_cons, List.flatten_cons, List.length_append, List.length_cons, List.length_nil, this]
      omega
/-- The path: names, and what is left of what they lead to. -/
def PathAt (B : Nat) (Gr : Nat → Prop) (w : World) (pv : Value) (p : List (ByteArray × List ByteArray)) : Prop :=
  ∃ vs : List Value, vs.length = p.length ∧ w.ownsRow B 131 2 pv p.length (pcells p vs) ∧ ∀ j (h : j < vs.length) (h' : j < p.length), StrsAt Gr w vs[j] p[j].2
theorem PathAt.keepB {B : Nat} {Gr : Nat → Prop} {w w' : World} {pv : Value} {p : List (ByteArray × List ByteArray)} (h : PathAt B Gr w pv p) (hs : w.heap.size ≤ w'.heap.size) (hB : ∀ b, Gr b → b < w.heap.size → w'.heap[b]? = w.heap[b]?) (hp : ∀ g, pv.ownBlock = some g → w'.heap[g]? = w.heap[g]?) : PathAt B Gr w' pv p := by
  obtain ⟨vs, h1, h2, h3⟩ := h
  exact ⟨vs, h1, own_keep h2 hp, fun j a b => (h3 j a b).keepB hs hB⟩
theorem PathAt.form {B : Nat} {Gr : Nat → Prop} {w : World} {pv : Value} {p : List (ByteArray × List ByteArray)} (h : PathAt B Gr w pv p) : ∃ A c, pv = .slice A p.length c := by
  obtain ⟨vs, _, hp, _⟩ := h
  obtain ⟨A, c, e, _⟩ := own_form hp
  exact ⟨A, c, e⟩
/-- A walk in memory: the walk's struct, the path's box, the path, what was come to, what its functions keep (in blocks F), and what leads to what (in blocks Gr). -/
structure WAt {σ : Type} (nv cv lv : Value) (Gr : Nat → Prop) (Nx : World → Prop) (St : σ → (Nat → Prop) → World → Prop) (B sb wb tb : Nat) (d : DS ByteArray σ) (F : Nat → Prop) (pv : Value) (w : World) : Prop where
  obj : w.heap[wb]? = some (.cells #[nv, cv, lv, .map (some sb)] 113)
  box : w.heap[tb]? = some (.cells #[pv] 129)
  path : PathAt B Gr w pv d.path.reverse
  seen : SeenAt w sb d.seen
  st : St d.st F w
  nx : Nx w
  le : B ≤ wb ∧ B ≤ tb ∧ B ≤ w.heap.size
  gr : ∀ k, Gr k → k < B ∧ k ≠ sb ∧ ¬ F k
  sep : ¬ F wb ∧ ¬ F tb ∧ ¬ F sb ∧ ∀ g, pv.ownBlock = some g → ¬ F g
/-- What stays: blocks that were there, but for those that the functions keep, and what was come to. -/
structure FrW (B sb : Nat) (F0 : Nat → Prop) (w0 : World) (F : Nat → Prop) (w : World) : Prop where
  os : w.os = w0.os
  tape : w.tape = w0.tape
  output : w.output = w0.output
  size : w0.heap.size ≤ w.heap.size
  block : ∀ k, k < B → ¬ F0 k → k ≠ sb → w.heap[k]? = w0.heap[k]?
  own : ∀ k, F k → F0 k ∨ B ≤ k
/-- What a function that is told of names does: its own blocks alone change, and it comes to own new ones alone. -/
structure ClosRes {σ : Type} (St : σ → (Nat → Prop) → World → Prop) (s' : σ) (F : Nat → Prop) (w : World) (F' : Nat → Prop) (w' : World) : Prop where
  st : St s' F' w'
  os : w'.os = w.os
  tape : w'.tape = w.tape
  output : w'.output = w.output
  size : w.heap.size ≤ w'.heap.size
  block : ∀ k, k < w.heap.size → ¬ F k → w'.heap[k]? = w.heap[k]?
  own : ∀ k, F' k → F k ∨ w.heap.size ≤ k
/-- What holds of a walk besides. -/
structure GoodD {σ : Type} (k : Wk ByteArray σ) (U : List ByteArray) (Rel : DS ByteArray σ → Prop) (d : DS ByteArray σ) : Prop where
  nodup : d.seen.Nodup
  sub : ∀ x ∈ d.seen, x ∈ U
  plen : d.path.length ≤ d.seen.length
  inu : InU k U d
  rel : Rel d
/-- The three functions of a walk. -/
structure ClosOK {σ : Type} (k : Wk ByteArray σ) (U : List ByteArray) (Rel : DS ByteArray σ → Prop) (nf : FuncId) (n1 n2 : Array Value) (cf : FuncId) (c1 c2 : Array Value) (lf : FuncId) (l1 l2 : Array Value) (Gr : Nat → Prop) (Nx : World → Prop) (St : σ → (Nat → Prop) → World → Prop) : Prop where
  ncall : ∀ (vs : Array Value) (y : World), (callFunc nf vs).run Try.prog y = .ok (.enter nf vs) y
  ccall : ∀ (vs : Array Value) (y : World), (callFunc cf vs).run Try.prog y = .ok (.enter cf vs) y
  lcall : ∀ (vs : Array Value) (y : World), (callFunc lf vs).run Try.prog y = .ok (.enter lf vs) y
  next : ∀ x y, x ∈ U → Nx y → Calls Try.prog nf (n1.push (.string x) ++ n2) y fun e y' => (∃ sv, e = .returned sv ∧ StrsAt Gr y' sv (k.next x)) ∧ Below y.heap.size y y'
  come : ∀ d x F y, GoodD k U Rel d → x ∈ U → x ∉ d.seen → St d.st F y → Nx y → Calls Try.prog cf (c1.push (.string x) ++ c2) y fun e y' => e = .returned (.tuple #[]) ∧ ∃ F', ClosRes St (k.come d.st x) F y F' y'
  leave : ∀ d n p F y, GoodD k U Rel d → d.path = (n, []) :: p → St d.st F y → Nx y → Calls Try.prog lf (l1.push (.string n) ++ l2) y fun e y' => e = .returned (.tuple #[]) ∧ ∃ F', ClosRes St (k.leave d.st n) F y F' y'
  stlt : ∀ s F w, St s F w → ∀ k, F k → k < w.heap.size
  stkeep : ∀ s F w w', St s F w → w.heap.size ≤ w'.heap.size → (∀ k, F k → w'.heap[k]? = w.heap[k]?) → St s F w'
  nxkeep : ∀ w w', Nx w → w.heap.size ≤ w'.heap.size → (∀ k, Gr k → w'.heap[k]? = w.heap[k]?) → Nx w'
  relE : ∀ d x, x ∈ U → Rel d → Rel (k.enter x d)
  relS : ∀ d, Rel d → Rel (k.step d)
  relP : ∀ (d : DS ByteArray σ) n l l' p, d.path = (n, l) :: p → Rel d → Rel { d with path := (n, l') :: p }
  len : U.length ≤ 1073741824
  size : ∀ u ∈ U, u.size ≤ maxLen
section
variable {σ : Type} {k : Wk ByteArray σ} {U : List ByteArray} {Rel : DS ByteArray σ → Prop} {d : DS ByteArray σ}
theorem GoodD.lens (h : GoodD k U Rel d) (hl : U.length ≤ 1073741824) : d.seen.length ≤ 1073741824 ∧ d.path.length ≤ 1073741824 := by
  have h1 : d.seen.length ≤ U.length := nodup_leS h.nodup h.sub
  have := h.plen
  omega
theorem GoodD.enter (h : GoodD k U Rel d) (hr : ∀ d x, x ∈ U → Rel d → Rel (k.enter x d)) {x : ByteArray} (hx : x ∈ U) : GoodD k U Rel (k.enter x d) := by
  refine ⟨?_, ?_, ?_, h.inu.enter hx, hr d x hx h.rel⟩
  all_goals unfold Wk.enter; split
  · exact h.nodup
  · exact List.nodup_cons.2 ⟨by assumption, h.nodup⟩
  · exact h.sub
  · intro y hy
    rcases List.mem_cons.1 hy with rfl | hy
    · exact hx
    · exact h.sub y hy
  · exact h.plen
  · have := h.plen; simpa using this
theorem GoodD.rest (h : GoodD k U Rel d) (hr : ∀ (d : DS ByteArray σ) n l l' p, d.path = (n, l) :: p → Rel d → Rel { d with path := (n, l') :: p }) {n x : ByteArray} {l : List ByteArray} {p : List (ByteArray × List ByteArray)} (hp : d.path = (n, x :: l) :: p) : GoodD k U Rel { d with path := (n, l) :: p } := by
  refine ⟨h.nodup, h.sub, ?_, ⟨h.inu.closed, fun e he y hy => ?_⟩, hr d n _ l p hp h.rel⟩
  · have := h.plen; rw [hp] at this; exact this
  · rcases List.mem_cons.1 he with rfl | he
    · exact h.inu.path (n, x :: l) (by rw [hp]; exact List.mem_cons_self ..) y (List.mem_cons_of_mem _ hy)
    · exact h.inu.path e (by rw [hp]; exact List.mem_cons_of_mem _ he) y hy
theorem GoodD.step (h : GoodD k U Rel d) (hr : ∀ d, Rel d → Rel (k.step d)) : GoodD k U Rel (k.step d) := by
  have h1 : (k.step d).seen.Nodup ∧ (∀ x ∈ (k.step d).seen, x ∈ U) ∧ (k.step d).path.length ≤ (k.step d).seen.length := by
    have hi := h.inu
    have hp := h.plen
    have hn := h.nodup
    have hs := h.sub
    clear h
    obtain ⟨seen, path, st⟩ := d
    unfold Wk.step
    split
    · exact ⟨hn, hs, hp⟩
    · rename_i n p e
      simp only at e; subst e
      exact ⟨hn, hs, by simp at hp ⊢; omega⟩
    · rename_i n x l p e
      simp only at e; subst e
      have hx := hi.path _ (List.mem_cons_self ..) x (List.mem_cons_self ..)
      unfold Wk.enter
      split
      · exact ⟨hn, hs, by simpa using hp⟩
      · refine ⟨List.nodup_cons.2 ⟨by assumption, hn⟩, fun y hy => ?_, by simpa using hp⟩
        rcases List.mem_cons.1 hy with rfl | hy
        · exact hx
        · exact hs y hy
  exact ⟨h1.1, h1.2.1, h1.2.2, h.inu.step, hr d h.rel⟩
end
section
variable {σ : Type} {nv cv lv : Value} {Gr : Nat → Prop} {Nx : World → Prop} {St : σ → (Nat → Prop) → World → Prop} {B sb wb tb : Nat} {d : DS ByteArray σ} {F : Nat → Prop} {pv : Value} {w : World}
theorem WAt.nes (h : WAt nv cv lv Gr Nx St B sb wb tb d F pv w) : wb ≠ tb ∧ sb ≠ wb ∧ sb ≠ tb ∧ pv.ownBlock ≠ some wb ∧ pv.ownBlock ≠ some tb ∧ pv.ownBlock ≠ some sb := by
  obtain ⟨vs, _, hp, _⟩ := h.path
  refine ⟨fun e => ?_, fun e => h.seen.noCell (by rw [e]; exact h.obj), fun e => h.seen.noCell (by rw [e]; exact h.box), own_not hp h.obj (by decide), own_not hp h.box (by decide), fun e => ?_⟩
  · have h1 := h.obj
    rw [e, h.box] at h1
    injection h1 with h1
    injection h1 with _ h1
    cases h1
  · obtain ⟨cur, hc⟩ := own_type hp e
    exact h.seen.noCell hc
theorem WAt.pvlt (h : WAt nv cv lv Gr Nx St B sb wb tb d F pv w) : ∀ g, pv.ownBlock = some g → B ≤ g ∧ g < w.heap.size := by
  obtain ⟨vs, _, hp, _⟩ := h.path
  exact fun g hg => hp.lt g hg
/-- Blocks of its own stay: so does it. -/
theorem WAt.keep (h : WAt nv cv lv Gr Nx St B sb wb tb d F pv w) {w' : World} {s' : σ} {F' : Nat → Prop} (hs : w.heap.size ≤ w'.heap.size) (hb : ∀ j, j < w.heap.size → ¬ F j → w'.heap[j]? = w.heap[j]?) (hst : St s' F' w') (hnx : ∀ w w', Nx w → w.heap.size ≤ w'.heap.size → (∀ k, Gr k → w'.heap[k]? = w.heap[k]?) → Nx w') (hF : ∀ j, F' j → F j ∨ w.heap.size ≤ j) : WAt nv cv lv Gr Nx St B sb wb tb { d with st := s' } F' pv w' := by
  have hgr : ∀ j, Gr j → w'.heap[j]? = w.heap[j]? := fun j hj => hb j (Nat.lt_of_lt_of_le (h.gr j hj).1 h.le.2.2) (h.gr j hj).2.2
  have hl := h.le
  have hnew : ∀ j, j < w.heap.size → ¬ F j → ¬ F' j := fun j hj hn hf => (hF j hf).elim hn (fun h9 => by omega)
  have l1 := lt_of_block h.obj
  have l2 := lt_of_block h.box
  refine ⟨(hb _ l1 h.sep.1).trans h.obj, (hb _ l2 h.sep.2.1).trans h.box, h.path.keepB hs (fun b hb _ => hgr b hb) (fun g hg => hb g (h.pvlt g hg).2 (h.sep.2.2.2 g hg)), h.seen.block (hb _ h.seen.lt h.sep.2.2.1), hst, hnx w w' h.nx hs hgr, ⟨hl.1, hl.2.1, Nat.le_trans hl.2.2 hs⟩, fun j hj => ⟨(h.gr j hj).1, (h.gr j hj).2.1, hnew j (Nat.lt_of_lt_of_le (h.gr j hj).1 hl.2.2) (h.gr j hj).2.2⟩, hnew _ l1 h.sep.1, hnew _ l2 h.sep.2.1, hnew _ h.seen.lt h.sep.2.2.1, fun g hg => hnew g (h.pvlt g hg).2 (h.sep.2.2.2 g hg)⟩
end
end Go.Proofs.Ytjfhncbfbhkhgaa
