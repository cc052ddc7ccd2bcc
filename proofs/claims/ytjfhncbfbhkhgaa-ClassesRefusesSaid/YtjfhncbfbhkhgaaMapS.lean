/- A map in memory whose keys are texts, as a function from keys to the values that lie there. No program; no conditions but those that each theorem names. -/
import Derived.Maps.OwnSet
import Derived.Maps.Views
import Derived.WalkKit
import Derived.StringKeys
namespace Go.Proofs.Ytjfhncbfbhkhgaa
open Go.RowKit Go.Maps Go.WideMaps

instance baLawful : LawfulBEq ByteArray where
  eq_of_beq {a b} h := by
    have h' : (a.data == b.data) = true := h
    rw [beq_iff_eq] at h'
    cases a; cases b; simp at h'; rw [h']
  rfl {a} := by show (a.data == a.data) = true; simp
/-- Each element's value reads as itself. -/
def rawS (v : Value) : Option (DataW Value × List MemPlace) := some (.held v, [])
def keyS (x : ByteArray) : Lit := .string x.data.toList
/-- So many keys there are at which f says something. -/
def KeysS (f : ByteArray → Option Value) (sz : Nat) : Prop := ∃ keys : List ByteArray, keys.Nodup ∧ keys.length = sz ∧ ∀ x, x ∈ keys ↔ f x ≠ none
def setS (f : ByteArray → Option Value) (x : ByteArray) (v : Option Value) : ByteArray → Option Value := fun y => if y = x then v else f y
theorem setS_self (f : ByteArray → Option Value) (x : ByteArray) (v : Option Value) : setS f x v x = v := by unfold setS; rw [if_pos rfl]
theorem setS_ne (f : ByteArray → Option Value) {x y : ByteArray} (v : Option Value) (h : y ≠ x) : setS f x v y = f y := by unfold setS; rw [if_neg h]
theorem KeysS.set {f : ByteArray → Option Value} {sz : Nat} (h : KeysS f sz) (x : ByteArray) (v : Value) : KeysS (setS f x (some v)) (if (f x).isSome then sz else sz + 1) := by
  obtain ⟨ks, hn, hl, hk⟩ := h
  by_cases hx : (f x).isSome = true
  · rw [if_pos hx]
    refine ⟨ks, hn, hl, fun y => ?_⟩
    by_cases e : y = x
    · subst e; rw [setS_self]; exact ⟨fun _ h => (by cases h), fun _ => (hk y).2 (fun h => by rw [h] at hx; cases hx)⟩
    · rw [setS_ne _ _ e]; exact hk y
  · rw [if_neg hx]
    have hx' : f x = none := by cases h : f x with | none => rfl | some u => rw [h] at hx; exact absurd rfl hx
    refine ⟨x :: ks, List.nodup_cons.2 ⟨fun h => (hk x).1 h hx', hn⟩, by simp [hl], fun y => ?_⟩
    by_cases e : y = x
    · subst e; rw [setS_self]; exact ⟨fun _ h => (by cases h), fun _ => List.mem_cons_self ..⟩
    · rw [setS_ne _ _ e, List.mem_cons]; exact ⟨fun h => (hk y).1 (h.resolve_left e), fun h => .inr ((hk y).2 h)⟩
theorem KeysS.del {f : ByteArray → Option Value} {sz : Nat} (h : KeysS f sz) (x : ByteArray) : KeysS (setS f x none) (if (f x).isSome then sz - 1 else sz) := by
  obtain ⟨ks, hn, hl, hk⟩ := h
  by_cases hx : (f x).isSome = true
  · rw [if_pos hx]
    have hm : x ∈ ks := (hk x).2 (fun h => by rw [h] at hx; cases hx)
    refine ⟨ks.erase x, hn.erase x, by rw [List.length_erase_of_mem hm, hl], fun y => ?_⟩
    by_cases e : y = x
    · subst e; rw [setS_self]; exact ⟨fun h => absurd h (fun h9 => (hn.mem_erase_iff.1 h9).1 rfl), fun h => absurd rfl h⟩
    · rw [setS_ne _ _ e, List.mem_erase_of_ne e]; exact hk y
  · rw [if_neg hx]
    have hx' : f x = none := by cases h : f x with | none => rfl | some u => rw [h] at hx; exact absurd rfl hx
    refine ⟨ks, hn, hl, fun y => ?_⟩
    by_cases e : y = x
    · subst e; rw [setS_self]; exact ⟨fun h => absurd hx' ((hk y).1 h), fun h => absurd rfl h⟩
    · rw [setS_ne _ _ e]; exact hk y
theorem nodup_leS : ∀ {a b : List ByteArray}, a.Nodup → (∀ x ∈ a, x ∈ b) → a.length ≤ b.length
  | [], _, _, _ => Nat.zero_le _
  | x :: a, b, hn, hs => by
    have hn' := List.nodup_cons.1 hn
    have hx : x ∈ b := hs x (List.mem_cons_self ..)
    have := nodup_leS (b := b.erase x) hn'.2 (fun y hy => (List.mem_erase_of_ne (fun e => hn'.1 (by rw [← e]; exact hy))).2 (hs y (List.mem_cons_of_mem _ hy)))
    rw [List.length_erase_of_mem hx] at this
    have := List.length_pos_of_mem hx
    simp only [List.length_cons]; omega
theorem KeysS.le {f g : ByteArray → Option Value} {s s' : Nat} (h : KeysS f s) (h' : KeysS g s') (hs : ∀ x, f x ≠ none → g x ≠ none) : s ≤ s' := by
  obtain ⟨ks, hn, hl, hk⟩ := h
  obtain ⟨ks', _, hl', hk'⟩ := h'
  rw [← hl, ← hl']
  exact nodup_leS hn (fun x hx => (hk' x).2 (hs x ((hk x).1 hx)))
/-- Block b is a map of so many entries: at each key what f says. -/
def MapS (P : Program) (k : TypeId) (w : World) (b sz : Nat) (f : ByteArray → Option Value) : Prop :=
  ∃ D : DataW Value, w.ownsMap P k rawS b sz D ∧ Maps.size D = sz ∧ (∀ x : ByteArray, match f x with | none => Maps.has D (keyS x) = false | some v => Maps.has D (keyS x) = true ∧ ∀ z, D.atKey (keyS x) z = .held v) ∧ KeysS f sz
theorem keyS_ne {x y : ByteArray} (h : y ≠ x) : keyS y ≠ keyS x := fun e => h (by
  unfold keyS at e
  injection e with e
  cases x; cases y
  simp only at e
  rw [Array.toList_inj.1 e])
theorem MapS.made (P : Program) (k : TypeId) (w : World) : MapS P k (w.alloc (.map #[] 0)) w.heap.size 0 (fun _ => none) := ⟨.map [], World.ownsMap_made w P k rawS, rfl, fun _ => rfl, [], List.nodup_nil, rfl, fun _ => ⟨fun h => absurd h (by simp), fun h => absurd rfl h⟩⟩
theorem MapS.lt {P : Program} {k : TypeId} {w : World} {b sz : Nat} {f : ByteArray → Option Value} (h : MapS P k w b sz f) : b < w.heap.size := by obtain ⟨D, h, _⟩ := h; exact h.lt
theorem MapS.kept {P : Program} {k : TypeId} {w w' : World} {b sz : Nat} {f : ByteArray → Option Value} {row : Option Nat} (h : MapS P k w b sz f) (hg : w.grownBy w' row) (hne : some b ≠ row) : MapS P k w' b sz f := by
  obtain ⟨D, h, r⟩ := h; exact ⟨D, h.kept hg hne, r⟩
theorem MapS.block {P : Program} {k : TypeId} {w w' : World} {b sz : Nat} {f : ByteArray → Option Value} (h : MapS P k w b sz f) (hb : w'.heap[b]? = w.heap[b]?) : MapS P k w' b sz f := by
  obtain ⟨D, ⟨es, clock, e, r⟩, q⟩ := h; exact ⟨D, ⟨es, clock, hb.trans e, r⟩, q⟩
theorem MapS.on {P : Program} {k : TypeId} {w w' : World} {b sz : Nat} {f : ByteArray → Option Value} (h : MapS P k w b sz f) (hb : Below w.heap.size w w') : MapS P k w' b sz f := h.block (hb.block b h.lt)
theorem MapS.setCell {P : Program} {k : TypeId} {w : World} {b sz : Nat} {f : ByteArray → Option Value} (h : MapS P k w b sz f) {a : Addr} (ha : b ≠ a.block) (u : Value) : MapS P k (w.setCell a u) b sz f := by
  obtain ⟨D, h, r⟩ := h; exact ⟨D, h.setCell ha u, r⟩
/-- No cell is a map's. -/
theorem MapS.noCell {P : Program} {k : TypeId} {w : World} {b sz : Nat} {f : ByteArray → Option Value} (h : MapS P k w b sz f) (o : Nat) : w.cell? ⟨b, o, none⟩ = none := by
  obtain ⟨D, ⟨es, clock, hb, _⟩, _⟩ := h
  simp [World.cell?, hb]
section
variable {P : Program} {k t e : TypeId} {w : World} {b sz : Nat} {f : ByteArray → Option Value}
theorem MapS.key (hk : P.underlying k = some .string) {x : ByteArray} (h1 : x.size ≤ maxLen) : keyOf P k (.string x) = some (keyS x) := keyOf_string_mk hk h1
/-- v, ok := m[x]. -/
theorem MapS.look_ok (h : MapS P k w b sz f) (hk : P.underlying k = some .string) (ht : P.underlying t = some (.map k e)) {z : Value} (hz : ∀ y, (zeroValue e).run P y = .ok z y) {x : ByteArray} (h1 : x.size ≤ maxLen) :
    (Instr.lookup t (.map (some b)) (.string x) true).run P w = .ok (.tuple #[(f x).getD z, .bool (f x).isSome]) w := by
  obtain ⟨D, ho, _, hf, _⟩ := h
  obtain ⟨v, ps, hrun, hv⟩ := ho.look_ok (string_keyed hk) ht (hz w) (zd := .held z) (zp := []) rfl (MapS.key hk h1)
  have hx := hf x
  have hv' : DataW.held v = D.atKey (keyS x) (.held z) := by unfold rawS at hv; injection hv with hv; injection hv with hv _
  rw [hrun]
  cases hfx : f x with
  | none =>
    rw [hfx] at hx
    have h9 := atKey_of_not_has hx (.held z)
    rw [h9] at hv'
    injection hv' with hv'
    rw [hv', show Maps.has D (keyS x) = false from hx]; rfl
  | some u =>
    rw [hfx] at hx
    rw [hx.2 (.held z)] at hv'
    injection hv' with hv'
    rw [hv', hx.1]; rfl
/-- m[x]. -/
theorem MapS.look (h : MapS P k w b sz f) (hk : P.underlying k = some .string) (ht : P.underlying t = some (.map k e)) {z : Value} (hz : ∀ y, (zeroValue e).run P y = .ok z y) {x : ByteArray} (h1 : x.size ≤ maxLen) :
    (Instr.lookup t (.map (some b)) (.string x) false).run P w = .ok ((f x).getD z) w := by
  obtain ⟨D, ho, _, hf, _⟩ := h
  obtain ⟨v, ps, hrun, hv⟩ := ho.lookup (string_keyed hk) ht (hz w) (zd := .held z) (zp := []) rfl (MapS.key hk h1)
  have hx := hf x
  have hv' : DataW.held v = D.atKey (keyS x) (.held z) := by unfold rawS at hv; injection hv with hv; injection hv with hv _
  rw [hrun]
  cases hfx : f x with
  | none =>
    rw [hfx] at hx
    have h9 := atKey_of_not_has hx (.held z)
    rw [h9] at hv'
    injection hv' with hv'
    rw [hv']; rfl
  | some u =>
    rw [hfx] at hx
    rw [hx.2 (.held z)] at hv'
    injection hv' with hv'
    rw [hv']; rfl
/-- m[x] = v. -/
theorem MapS.store (h : MapS P k w b sz f) (hk : P.underlying k = some .string) (ht : P.underlying t = some (.map k e)) (hn : sz < maxLen) (v : Value) {x : ByteArray} (h1 : x.size ≤ maxLen) :
    ∃ w', (Instr.mapUpdate t (.map (some b)) (.string x) v).run P w = .ok () w' ∧ MapS P k w' b (if (f x).isSome then sz else sz + 1) (setS f x (some v)) ∧ w.grownBy w' (some b) := by
  obtain ⟨D, ho, hs, hf, hks⟩ := h
  obtain ⟨w', hrun, ho', hg⟩ := ho.update (string_keyed hk) ht hn (d := .held v) (ps := []) (MapS.key hk h1) rfl
  have htd := ho.tidy (string_keyed hk)
  have hx := hf x
  have hsz : Maps.size (D.put (keyS x) (.held v)) = if (f x).isSome then sz else sz + 1 := by
    rw [size_put htd, hs]
    cases hfx : f x with
    | none => rw [hfx] at hx; rw [show Maps.has D (keyS x) = false from hx]; rfl
    | some u => rw [hfx] at hx; rw [hx.1]; rfl
  refine ⟨w', hrun, ⟨_, ?_, hsz, fun y => ?_, hks.set x v⟩, hg⟩
  · obtain ⟨es, clock, hb, F, hle, hD⟩ := ho'
    refine ⟨es, clock, hb, F, ?_, hD⟩
    rw [← hsz, hD]
    show es.size ≤ ((es.toList.map _).foldr DataW.insert []).length
    rw [length_sorted]; simp
  · unfold setS
    by_cases hyx : y = x
    · subst hyx
      rw [if_pos rfl]
      exact ⟨has_put_same (k := keyS y) htd.isMap (show True from trivial) _, fun z => atKey_put_same (k := keyS y) htd.isMap (show True from trivial) _ z⟩
    · rw [if_neg hyx]
      have h9 := hf y
      rw [has_put_other (keyS_ne hyx)]
      cases hfy : f y with
      | none => rw [hfy] at h9; exact h9
      | some u => rw [hfy] at h9; exact ⟨h9.1, fun z => by rw [atKey_put_other (keyS_ne hyx)]; exact h9.2 z⟩
/-- delete(m, x). -/
theorem MapS.drop (h : MapS P k w b sz f) (hk : P.underlying k = some .string) (ht : P.underlying t = some (.map k e)) {x : ByteArray} (h1 : x.size ≤ maxLen) (ty : TypeId) :
    ∃ w', (Builtin.delete_ #[t, k] ty #[.map (some b), .string x]).run P w = .ok (.tuple #[]) w' ∧ MapS P k w' b (if (f x).isSome then sz - 1 else sz) (setS f x none) ∧ w.grownBy w' (some b) := by
  obtain ⟨D, ho, hs, hf, hks⟩ := h
  obtain ⟨w', hrun, ho', hg⟩ := ho.drop (string_keyed hk) ht (MapS.key hk h1) ty
  have htd := ho.tidy (string_keyed hk)
  have hx := hf x
  have hsz : Maps.size (D.del (keyS x)) = if (f x).isSome then sz - 1 else sz := by
    have h9 := size_del (k := keyS x) htd
    cases hfx : f x with
    | none => rw [hfx] at hx; rw [show Maps.has D (keyS x) = false from hx] at h9; simp at h9 ⊢; omega
    | some u => rw [hfx] at hx; rw [hx.1] at h9; simp at h9 ⊢; omega
  refine ⟨w', hrun, ⟨_, ?_, hsz, fun y => ?_, hks.del x⟩, hg.grown⟩
  · obtain ⟨es, clock, hb, F, hle, hD⟩ := ho'
    refine ⟨es, clock, hb, F, ?_, hD⟩
    rw [← hsz, hD]
    show es.size ≤ ((es.toList.map _).foldr DataW.insert []).length
    rw [length_sorted]; simp
  · unfold setS
    by_cases hyx : y = x
    · subst hyx
      rw [if_pos rfl]
      exact has_del_same
    · rw [if_neg hyx]
      have h9 := hf y
      rw [has_del_other (keyS_ne hyx)]
      cases hfy : f y with
      | none => rw [hfy] at h9; exact h9
      | some u => rw [hfy] at h9; exact ⟨h9.1, fun z => by rw [atKey_del_other (keyS_ne hyx)]; exact h9.2 z⟩
/-- len(m). -/
theorem MapS.len (h : MapS P k w b sz f) (ht : P.underlying t = some (.map k e)) (ty : TypeId) : (Builtin.len_ #[t] ty #[.map (some b)]).run P w = .ok (.int .i64 sz) w := by
  obtain ⟨D, ho, hs, _⟩ := h
  rw [ho.len ht ty, hs]
/-- m[x] = v, at the operation. -/
theorem wpList_storeS {ops : Array Oper} {rest : List Oper} {o : Oper} {a : Act} {Q : Exit → Act → World → Prop} (hg : o.guard = none) (m x v : Operand) (hop : o.op = Op.mapUpdate t m x v) (hk : P.underlying k = some .string) (ht : P.underlying t = some (.map k e))
    (hm : a.eval m = .map (some b)) (h : MapS P k w b sz f) (hn : sz < maxLen) (xi : ByteArray) (hx : a.eval x = .string xi) (val : Value) (hv : a.eval v = val) (h1 : xi.size ≤ maxLen)
    (hK : ∀ w', MapS P k w' b (if (f xi).isSome then sz else sz + 1) (setS f xi (some val)) → w.grownBy w' (some b) → wpList P ops Q rest (a.put o.dst undef) w') : wpList P ops Q (o :: rest) a w := by
  refine wpList_plain hg fun K' hK' => ?_
  obtain ⟨w', hrun, r1, r2⟩ := h.store hk ht hn val h1
  unfold Oper.wp
  simp [execOp, hop, hm, hx, hv, hrun, Result.andThen]
  exact hK' _ _ (hK w' r1 r2)
theorem MapS.keys (h : MapS P k w b sz f) : KeysS f sz := by obtain ⟨D, _, _, _, hks⟩ := h; exact hks
end
end Go.Proofs.Ytjfhncbfbhkhgaa
