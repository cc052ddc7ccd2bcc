/- A map in memory, whatever its keys are, as a function from keys to the values that lie there. No program; no conditions but those that each theorem names. -/
import Derived.Maps.OwnSet
import Derived.Maps.Views
import Derived.WalkKit
import Derived.StringKeys
namespace Go.Proofs.Ytjfhncbfbhkhgaa
open Go.RowKit Go.Maps Go.WideMaps

/-- Each element's value reads as itself. -/
def rawK (v : Value) : Option (DataW Value × List MemPlace) := some (.held v, [])
section
variable {κ : Type} {key : κ → Value} {lit : κ → Lit}
/-- So many keys there are at which f says something. -/
def KeysK (f : κ → Option Value) (sz : Nat) : Prop := ∃ keys : List κ, keys.Nodup ∧ keys.length = sz ∧ ∀ x, x ∈ keys ↔ f x ≠ none
noncomputable def setK (f : κ → Option Value) (x : κ) (v : Option Value) : κ → Option Value := fun y => @ite _ (y = x) (Classical.propDecidable _) v (f y)
theorem setK_self (f : κ → Option Value) (x : κ) (v : Option Value) : setK f x v x = v := by unfold setK; rw [if_pos rfl]
theorem setK_ne (f : κ → Option Value) {x y : κ} (v : Option Value) (h : y ≠ x) : setK f x v y = f y := by unfold setK; rw [if_neg h]
theorem KeysK.set {f : κ → Option Value} {sz : Nat} (h : KeysK f sz) (x : κ) (v : Value) : KeysK (setK f x (some v)) (if (f x).isSome then sz else sz + 1) := by
  obtain ⟨ks, hn, hl, hk⟩ := h
  by_cases hx : (f x).isSome = true
  · rw [if_pos hx]
    refine ⟨ks, hn, hl, fun y => ?_⟩
    by_cases e : y = x
    · subst e; rw [setK_self]; exact ⟨fun _ h => (by cases h), fun _ => (hk y).2 (fun h => by rw [h] at hx; cases hx)⟩
    · rw [setK_ne _ _ e]; exact hk y
  · rw [if_neg hx]
    have hx' : f x = none := by cases h : f x with | none => rfl | some u => rw [h] at hx; exact absurd rfl hx
    refine ⟨x :: ks, List.nodup_cons.2 ⟨fun h => (hk x).1 h hx', hn⟩, by simp [hl], fun y => ?_⟩
    by_cases e : y = x
    · subst e; rw [setK_self]; exact ⟨fun _ h => (by cases h), fun _ => List.mem_cons_self ..⟩
    · rw [setK_ne _ _ e, List.mem_cons]; exact ⟨fun h => (hk y).1 (h.resolve_left e), fun h => .inr ((hk y).2 h)⟩
theorem nodup_leK [DecidableEq κ] : ∀ {a b : List κ}, a.Nodup → (∀ x ∈ a, x ∈ b) → a.length ≤ b.length
  | [], _, _, _ => Nat.zero_le _
  | x :: a, b, hn, hs => by
    have hn' := List.nodup_cons.1 hn
    have hx : x ∈ b := hs x (List.mem_cons_self ..)
    have := nodup_leK (b := b.erase x) hn'.2 (fun y hy => (List.mem_erase_of_ne (fun e => hn'.1 (by rw [← e]; exact hy))).2 (hs y (List.mem_cons_of_mem _ hy)))
    rw [List.length_erase_of_mem hx] at this
    have := List.length_pos_of_mem hx
    simp only [List.length_cons]; omega
theorem KeysK.le [DecidableEq κ] {f g : κ → Option Value} {s s' : Nat} (h : KeysK f s) (h' : KeysK g s') (hs : ∀ x, f x ≠ none → g x ≠ none) : s ≤ s' := by
  obtain ⟨ks, hn, hl, hk⟩ := h
  obtain ⟨ks', _, hl', hk'⟩ := h'
  rw [← hl, ← hl']
  exact nodup_leK hn (fun x hx => (hk' x).2 (hs x ((hk x).1 hx)))
/-- Block b is a map of so many entries: at each key what f says. -/
def MapK (lit : κ → Lit) (P : Program) (k : TypeId) (w : World) (b sz : Nat) (f : κ → Option Value) : Prop :=
  ∃ D : DataW Value, w.ownsMap P k rawK b sz D ∧ Maps.size D = sz ∧ (∀ x : κ, match f x with | none => Maps.has D (lit x) = false | some v => Maps.has D (lit x) = true ∧ ∀ z, D.atKey (lit x) z = .held v) ∧ KeysK f sz
theorem MapK.made (lit : κ → Lit) (P : Program) (k : TypeId) (w : World) : MapK lit P k (w.alloc (.map #[] 0)) w.heap.size 0 (fun _ => none) := ⟨.map [], World.ownsMap_made w P k rawK, rfl, fun _ => rfl, [], List.nodup_nil, rfl, fun _ => ⟨fun h => absurd h (by simp), fun h => absurd rfl h⟩⟩
theorem MapK.lt {P : Program} {k : TypeId} {w : World} {b sz : Nat} {f : κ → Option Value} (h : MapK lit P k w b sz f) : b < w.heap.size := by obtain ⟨D, h, _⟩ := h; exact h.lt
theorem MapK.kept {P : Program} {k : TypeId} {w w' : World} {b sz : Nat} {f : κ → Option Value} {row : Option Nat} (h : MapK lit P k w b sz f) (hg : w.grownBy w' row) (hne : some b ≠ row) : MapK lit P k w' b sz f := by
  obtain ⟨D, h, r⟩ := h; exact ⟨D, h.kept hg hne, r⟩
theorem MapK.block {P : Program} {k : TypeId} {w w' : World} {b sz : Nat} {f : κ → Option Value} (h : MapK lit P k w b sz f) (hb : w'.heap[b]? = w.heap[b]?) : MapK lit P k w' b sz f := by
  obtain ⟨D, ⟨es, clock, e, r⟩, q⟩ := h; exact ⟨D, ⟨es, clock, hb.trans e, r⟩, q⟩
theorem MapK.on {P : Program} {k : TypeId} {w w' : World} {b sz : Nat} {f : κ → Option Value} (h : MapK lit P k w b sz f) (hb : Below w.heap.size w w') : MapK lit P k w' b sz f := h.block (hb.block b h.lt)
theorem MapK.setCell {P : Program} {k : TypeId} {w : World} {b sz : Nat} {f : κ → Option Value} (h : MapK lit P k w b sz f) {a : Addr} (ha : b ≠ a.block) (u : Value) : MapK lit P k (w.setCell a u) b sz f := by
  obtain ⟨D, h, r⟩ := h; exact ⟨D, h.setCell ha u, r⟩
/-- No cell is a map's. -/
theorem MapK.noCell {P : Program} {k : TypeId} {w : World} {b sz : Nat} {f : κ → Option Value} (h : MapK lit P k w b sz f) (o : Nat) : w.cell? ⟨b, o, none⟩ = none := by
  obtain ⟨D, ⟨es, clock, hb, _⟩, _⟩ := h
  simp [World.cell?, hb]
section
variable {P : Program} {k t e : TypeId} {w : World} {b sz : Nat} {f : κ → Option Value}
/-- v, ok := m[x]. -/
theorem MapK.look_ok (h : MapK lit P k w b sz f) (K : Keyed P k) (ht : P.underlying t = some (.map k e)) {z : Value} (hz : ∀ y, (zeroValue e).run P y = .ok z y) {x : κ} (h1 : keyOf P k (key x) = some (lit x)) :
    (Instr.lookup t (.map (some b)) (key x) true).run P w = .ok (.tuple #[(f x).getD z, .bool (f x).isSome]) w := by
  obtain ⟨D, ho, _, hf, _⟩ := h
  obtain ⟨v, ps, hrun, hv⟩ := ho.look_ok K ht (hz w) (zd := .held z) (zp := []) rfl h1
  have hx := hf x
  have hv' : DataW.held v = D.atKey (lit x) (.held z) := by unfold rawK at hv; injection hv with hv; injection hv with hv _
  rw [hrun]
  cases hfx : f x with
  | none =>
    rw [hfx] at hx
    have h9 := atKey_of_not_has hx (.held z)
    rw [h9] at hv'
    injection hv' with hv'
    rw [hv', show Maps.has D (lit x) = false from hx]; rfl
  | some u =>
    rw [hfx] at hx
    rw [hx.2 (.held z)] at hv'
    injection hv' with hv'
    rw [hv', hx.1]; rfl
/-- m[x]. -/
theorem MapK.look (h : MapK lit P k w b sz f) (K : Keyed P k) (ht : P.underlying t = some (.map k e)) {z : Value} (hz : ∀ y, (zeroValue e).run P y = .ok z y) {x : κ} (h1 : keyOf P k (key x) = some (lit x)) :
    (Instr.lookup t (.map (some b)) (key x) false).run P w = .ok ((f x).getD z) w := by
  obtain ⟨D, ho, _, hf, _⟩ := h
  obtain ⟨v, ps, hrun, hv⟩ := ho.lookup K ht (hz w) (zd := .held z) (zp := []) rfl h1
  have hx := hf x
  have hv' : DataW.held v = D.atKey (lit x) (.held z) := by unfold rawK at hv; injection hv with hv; injection hv with hv _
  rw [hrun]
  cases hfx : f x with
  | none =>
    rw [hfx] at hx
    have h9 := atKey_of_not_has hx (.held z)
    rw [h9] at hv'
    injection hv' with hv'
    rw [hv']; rfl
  | some u =>
    rw [hfx] at hx
    rw [hx.2 (.held z)] at hv'
    injection hv' with hv'
    rw [hv']; rfl
/-- m[x] = v. -/
theorem MapK.store (h : MapK lit P k w b sz f) (K : Keyed P k) (ht : P.underlying t = some (.map k e)) (hn : sz < maxLen) (hinj : ∀ {x y : κ}, y ≠ x → lit y ≠ lit x) (v : Value) {x : κ} (h1 : keyOf P k (key x) = some (lit x)) :
    ∃ w', (Instr.mapUpdate t (.map (some b)) (key x) v).run P w = .ok () w' ∧ MapK lit P k w' b (if (f x).isSome then sz else sz + 1) (setK f x (some v)) ∧ w.grownBy w' (some b) := by
  obtain ⟨D, ho, hs, hf, hks⟩ := h
  obtain ⟨w', hrun, ho', hg⟩ := ho.update K ht hn (d := .held v) (ps := []) h1 rfl
  have htd := ho.tidy K
  have hx := hf x
  have hsz : Maps.size (D.put (lit x) (.held v)) = if (f x).isSome then sz else sz + 1 := by
    rw [size_put htd, hs]
    cases hfx : f x with
    | none => rw [hfx] at hx; rw [show Maps.has D (lit x) = false from hx]; rfl
    | some u => rw [hfx] at hx; rw [hx.1]; rfl
  refine ⟨w', hrun, ⟨_, ?_, hsz, fun y => ?_, hks.set x v⟩, hg⟩
  · obtain ⟨es, clock, hb, F, hle, hD⟩ := ho'
    refine ⟨es, clock, hb, F, ?_, hD⟩
    rw [← hsz, hD]
    show es.size ≤ ((es.toList.map _).foldr DataW.insert []).length
    rw [length_sorted]; simp
  · unfold setK
    by_cases hyx : y = x
    · subst hyx
      rw [if_pos rfl]
      exact ⟨has_put_same (k := lit y) htd.isMap (K.key h1) _, fun z => atKey_put_same (k := lit y) htd.isMap (K.key h1) _ z⟩
    · rw [if_neg hyx]
      have h9 := hf y
      rw [has_put_other (hinj hyx)]
      cases hfy : f y with
      | none => rw [hfy] at h9; exact h9
      | some u => rw [hfy] at h9; exact ⟨h9.1, fun z => by rw [atKey_put_other (hinj hyx)]; exact h9.2 z⟩
/-- len(m). -/
theorem MapK.len (h : MapK lit P k w b sz f) (ht : P.underlying t = some (.map k e)) (ty : TypeId) : (Builtin.len_ #[t] ty #[.map (some b)]).run P w = .ok (.int .i64 sz) w := by
  obtain ⟨D, ho, hs, _⟩ := h
  rw [ho.len ht ty, hs]
/-- m[x] = v, at the operation. -/
theorem wpList_storeK {ops : Array Oper} {rest : List Oper} {o : Oper} {a : Act} {Q : Exit → Act → World → Prop} (hg : o.guard = none) (m x v : Operand) (hop : o.op = Op.mapUpdate t m x v) (K : Keyed P k) (ht : P.underlying t = some (.map k e))
    (hm : a.eval m = .map (some b)) (h : MapK lit P k w b sz f) (hn : sz < maxLen) (hinj : ∀ {x y : κ}, y ≠ x → lit y ≠ lit x) (xi : κ) (hx : a.eval x = key xi) (val : Value) (hv : a.eval v = val) (h1 : keyOf P k (key xi) = some (lit xi))
    (hK : ∀ w', MapK lit P k w' b (if (f xi).isSome then sz else sz + 1) (setK f xi (some val)) → w.grownBy w' (some b) → wpList P ops Q rest (a.put o.dst undef) w') : wpList P ops Q (o :: rest) a w := by
  refine wpList_plain hg fun K' hK' => ?_
  obtain ⟨w', hrun, r1, r2⟩ := h.store K ht hn hinj val h1
  unfold Oper.wp
  simp [execOp, hop, hm, hx, hv, hrun, Result.andThen]
  exact hK' _ _ (hK w' r1 r2)
theorem MapK.keys (h : MapK lit P k w b sz f) : KeysK f sz := by obtain ⟨D, _, _, _, hks⟩ := h; exact hks
end
end
end Go.Proofs.Ytjfhncbfbhkhgaa
