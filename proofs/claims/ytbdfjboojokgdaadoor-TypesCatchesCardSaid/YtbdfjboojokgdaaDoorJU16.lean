/- A map in memory whose keys are integers, as a function from keys to the values that lie there. No program; no conditions but those that each theorem names. The contracts of types.Metas and of the document's (chapter 4). Condition: the type has at most 2^40 nodes; its numbers are int64's. -/
import Derived.Maps.OwnSet
import Derived.Maps.Views
import Derived.WalkKit
import Derived.Test.YtbdfjboojokgdaaDoorJU15
namespace Go.Proofs.YtbdfjboojokgdaaDoor
open Go.RowKit Go.Maps

/-- Each element's value reads as itself. -/
def rawR (v : Value) : Option (DataW Value × List MemPlace) := some (.held v, [])
def keyL (x : Int) : Lit := .int .i64 x
/-- So many keys there are at which f says something. -/
def Keys (f : Int → Option Value) (sz : Nat) : Prop := ∃ keys : List Int, keys.Nodup ∧ keys.length = sz ∧ ∀ x, x ∈ keys ↔ f x ≠ none
def setF (f : Int → Option Value) (x : Int) (v : Option Value) : Int → Option Value := fun y => if y = x then v else f y
theorem setF_self (f : Int → Option Value) (x : Int) (v : Option Value) : setF f x v x = v := by unfold setF; rw [if_pos rfl]
theorem setF_ne (f : Int → Option Value) {x y : Int} (v : Option Value) (h : y ≠ x) : setF f x v y = f y := by unfold setF; rw [if_neg h]
theorem Keys.set {f : Int → Option Value} {sz : Nat} (h : Keys f sz) (x : Int) (v : Value) : Keys (setF f x (some v)) (if (f x).isSome then sz else sz + 1) := by
  obtain ⟨ks, hn, hl, hk⟩ := h
  by_cases hx : (f x).isSome = true
  · rw [if_pos hx]
    refine ⟨ks, hn, hl, fun y => ?_⟩
    by_cases e : y = x
    · subst e; rw [setF_self]; exact ⟨fun _ h => (by cases h), fun _ => (hk y).2 (fun h => by rw [h] at hx; cases hx)⟩
    · rw [setF_ne _ _ e]; exact hk y
  · rw [if_neg hx]
    have hx' : f x = none := by cases h : f x with | none => rfl | some u => rw [h] at hx; exact absurd rfl hx
    refine ⟨x :: ks, List.nodup_cons.2 ⟨fun h => (hk x).1 h hx', hn⟩, by simp [hl], fun y => ?_⟩
    by_cases e : y = x
    · subst e; rw [setF_self]; exact ⟨fun _ h => (by cases h), fun _ => List.mem_cons_self ..⟩
    · rw [setF_ne _ _ e, List.mem_cons]; exact ⟨fun h => (hk y).1 (h.resolve_left e), fun h => .inr ((hk y).2 h)⟩
theorem Keys.del {f : Int → Option Value} {sz : Nat} (h : Keys f sz) (x : Int) : Keys (setF f x none) (if (f x).isSome then sz - 1 else sz) := by
  obtain ⟨ks, hn, hl, hk⟩ := h
  by_cases hx : (f x).isSome = true
  · rw [if_pos hx]
    have hm : x ∈ ks := (hk x).2 (fun h => by rw [h] at hx; cases hx)
    refine ⟨ks.erase x, hn.erase x, by rw [List.length_erase_of_mem hm, hl], fun y => ?_⟩
    by_cases e : y = x
    · subst e; rw [setF_self]; exact ⟨fun h => absurd h (fun h9 => (hn.mem_erase_iff.1 h9).1 rfl), fun h => absurd rfl h⟩
    · rw [setF_ne _ _ e, List.mem_erase_of_ne e]; exact hk y
  · rw [if_neg hx]
    have hx' : f x = none := by cases h : f x with | none => rfl | some u => rw [h] at hx; exact absurd rfl hx
    refine ⟨ks, hn, hl, fun y => ?_⟩
    by_cases e : y = x
    · subst e; rw [setF_self]; exact ⟨fun h => absurd hx' ((hk y).1 h), fun h => absurd rfl h⟩
    · rw [setF_ne _ _ e]; exact hk y
theorem nodup_le : ∀ {a b : List Int}, a.Nodup → (∀ x ∈ a, x ∈ b) → a.length ≤ b.length
  | [], _, _, _ => Nat.zero_le _
  | x :: a, b, hn, hs => by
    have hn' := List.nodup_cons.1 hn
    have hx : x ∈ b := hs x (List.mem_cons_self ..)
    have := nodup_le (b := b.erase x) hn'.2 (fun y hy => (List.mem_erase_of_ne (fun e => hn'.1 (by rw [← e]; exact hy))).2 (hs y (List.mem_cons_of_mem _ hy)))
    rw [List.length_erase_of_mem hx] at this
    have := List.length_pos_of_mem hx
    simp only [List.length_cons]; omega
theorem Keys.le {f g : Int → Option Value} {s s' : Nat} (h : Keys f s) (h' : Keys g s') (hs : ∀ x, f x ≠ none → g x ≠ none) : s ≤ s' := by
  obtain ⟨ks, hn, hl, hk⟩ := h
  obtain ⟨ks', _, hl', hk'⟩ := h'
  rw [← hl, ← hl']
  exact nodup_le hn (fun x hx => (hk' x).2 (hs x ((hk x).1 hx)))
/-- Block b is a map of so many entries: at each key what f says. -/
def MapI (P : Program) (k : TypeId) (w : World) (b sz : Nat) (f : Int → Option Value) : Prop :=
  ∃ D : DataW Value, w.ownsMap P k rawR b sz D ∧ Maps.size D = sz ∧ (∀ x : Int, match f x with | none => Maps.has D (keyL x) = false | some v => Maps.has D (keyL x) = true ∧ ∀ z, D.atKey (keyL x) z = .held v) ∧ Keys f sz
theorem keyL_ne {x y : Int} (h : y ≠ x) : keyL y ≠ keyL x := fun e => h (by unfold keyL at e; injection e)
theorem MapI.made (P : Program) (k : TypeId) (w : World) : MapI P k (w.alloc (.map #[] 0)) w.heap.size 0 (fun _ => none) := ⟨.map [], World.ownsMap_made w P k rawR, rfl, fun _ => rfl, [], List.nodup_nil, rfl, fun _ => ⟨fun h => absurd h (by simp), fun h => absurd rfl h⟩⟩
theorem MapI.lt {P : Program} {k : TypeId} {w : World} {b sz : Nat} {f : Int → Option Value} (h : MapI P k w b sz f) : b < w.heap.size := by obtain ⟨D, h, _⟩ := h; exact h.lt
theorem MapI.kept {P : Program} {k : TypeId} {w w' : World} {b sz : Nat} {f : Int → Option Value} {row : Option Nat} (h : MapI P k w b sz f) (hg : w.grownBy w' row) (hne : some b ≠ row) : MapI P k w' b sz f := by
  obtain ⟨D, h, r⟩ := h; exact ⟨D, h.kept hg hne, r⟩
theorem MapI.block {P : Program} {k : TypeId} {w w' : World} {b sz : Nat} {f : Int → Option Value} (h : MapI P k w b sz f) (hb : w'.heap[b]? = w.heap[b]?) : MapI P k w' b sz f := by
  obtain ⟨D, ⟨es, clock, e, r⟩, q⟩ := h; exact ⟨D, ⟨es, clock, hb.trans e, r⟩, q⟩
theorem MapI.on {P : Program} {k : TypeId} {w w' : World} {b sz : Nat} {f : Int → Option Value} (h : MapI P k w b sz f) (hb : Below w.heap.size w w') : MapI P k w' b sz f := h.block (hb.block b h.lt)
theorem MapI.setCell {P : Program} {k : TypeId} {w : World} {b sz : Nat} {f : Int → Option Value} (h : MapI P k w b sz f) {a : Addr} (ha : b ≠ a.block) (u : Value) : MapI P k (w.setCell a u) b sz f := by
  obtain ⟨D, h, r⟩ := h; exact ⟨D, h.setCell ha u, r⟩
/-- No cell is a map's. -/
theorem MapI.noCell {P : Program} {k : TypeId} {w : World} {b sz : Nat} {f : Int → Option Value} (h : MapI P k w b sz f) (o : Nat) : w.cell? ⟨b, o, none⟩ = none := by
  obtain ⟨D, ⟨es, clock, hb, _⟩, _⟩ := h
  simp [World.cell?, hb]
section
variable {P : Program} {k t e : TypeId} {w : World} {b sz : Nat} {f : Int → Option Value}
theorem wf64 {x : Int} (h1 : -9223372036854775808 ≤ x) (h2 : x ≤ 9223372036854775807) : (Lit.int .i64 x).wf = true := WalkArith.wf_i64 (by omega)
theorem MapI.key (hk : P.underlying k = some (.int .i64)) {x : Int} (h1 : -9223372036854775808 ≤ x) (h2 : x ≤ 9223372036854775807) : keyOf P k (.int .i64 x) = some (keyL x) := keyOf_int_mk hk (wf64 h1 h2)
/-- v, ok := m[x]. -/
theorem MapI.look_ok (h : MapI P k w b sz f) (hk : P.underlying k = some (.int .i64)) (ht : P.underlying t = some (.map k e)) {z : Value} (hz : ∀ y, (zeroValue e).run P y = .ok z y) {x : Int} (h1 : -9223372036854775808 ≤ x) (h2 : x ≤ 9223372036854775807) :
    (Instr.lookup t (.map (some b)) (.int .i64 x) true).run P w = .ok (.tuple #[(f x).getD z, .bool (f x).isSome]) w := by
  obtain ⟨D, ho, _, hf, _⟩ := h
  obtain ⟨v, ps, hrun, hv⟩ := ho.look_ok (int_keyed hk) ht (hz w) (zd := .held z) (zp := []) rfl (MapI.key hk h1 h2)
  have hx := hf x
  have hv' : DataW.held v = D.atKey (keyL x) (.held z) := by unfold rawR at hv; injection hv with hv; injection hv with hv _
  rw [hrun]
  cases hfx : f x with
  | none =>
    rw [hfx] at hx
    have h9 := atKey_of_not_has hx (.held z)
    rw [h9] at hv'
    injection hv' with hv'
    rw [hv', show Maps.has D (keyL x) = false from hx]; rfl
  | some u =>
    rw [hfx] at hx
    rw [hx.2 (.held z)] at hv'
    injection hv' with hv'
    rw [hv', hx.1]; rfl
/-- m[x]. -/
theorem MapI.look (h : MapI P k w b sz f) (hk : P.underlying k = some (.int .i64)) (ht : P.underlying t = some (.map k e)) {z : Value} (hz : ∀ y, (zeroValue e).run P y = .ok z y) {x : Int} (h1 : -9223372036854775808 ≤ x) (h2 : x ≤ 9223372036854775807) :
    (Instr.lookup t (.map (some b)) (.int .i64 x) false).run P w = .ok ((f x).getD z) w := by
  obtain ⟨D, ho, _, hf, _⟩ := h
  obtain ⟨v, ps, hrun, hv⟩ := ho.lookup (int_keyed hk) ht (hz w) (zd := .held z) (zp := []) rfl (MapI.key hk h1 h2)
  have hx := hf x
  have hv' : DataW.held v = D.atKey (keyL x) (.held z) := by unfold rawR at hv; injection hv with hv; injection hv with hv _
  rw [hrun]
  cases hfx : f x with
  | none =>
    rw [hfx] at hx
    have h9 := atKey_of_not_has hx (.held z)
    rw [h9] at hv'
    injection hv' with hv'
    rw [hv']; rfl
  | some u =>
    rw [hfx] at hx
    rw [hx.2 (.held z)] at hv'
    injection hv' with hv'
    rw [hv']; rfl
/-- m[x] = v. -/
theorem MapI.store (h : MapI P k w b sz f) (hk : P.underlying k = some (.int .i64)) (ht : P.underlying t = some (.map k e)) (hn : sz < maxLen) (v : Value) {x : Int} (h1 : -9223372036854775808 ≤ x) (h2 : x ≤ 9223372036854775807) :
    ∃ w', (Instr.mapUpdate t (.map (some b)) (.int .i64 x) v).run P w = .ok () w' ∧ MapI P k w' b (if (f x).isSome then sz else sz + 1) (setF f x (some v)) ∧ w.grownBy w' (some b) := by
  obtain ⟨D, ho, hs, hf, hks⟩ := h
  obtain ⟨w', hrun, ho', hg⟩ := ho.update (int_keyed hk) ht hn (d := .held v) (ps := []) (MapI.key hk h1 h2) rfl
  have htd := ho.tidy (int_keyed hk)
  have hx := hf x
  have hsz : Maps.size (D.put (keyL x) (.held v)) = if (f x).isSome then sz else sz + 1 := by
    rw [size_put htd, hs]
    cases hfx : f x with
    | none => rw [hfx] at hx; rw [show Maps.has D (keyL x) = false from hx]; rfl
    | some u => rw [hfx] at hx; rw [hx.1]; rfl
  refine ⟨w', hrun, ⟨_, ?_, hsz, fun y => ?_, hks.set x v⟩, hg⟩
  · obtain ⟨es, clock, hb, F, hle, hD⟩ := ho'
    refine ⟨es, clock, hb, F, ?_, hD⟩
    rw [← hsz, hD]
    show es.size ≤ ((es.toList.map _).foldr DataW.insert []).length
    rw [length_sorted]; simp
  · unfold setF
    by_cases hyx : y = x
    · subst hyx
      rw [if_pos rfl]
      exact ⟨has_put_same (k := keyL y) htd.isMap (show True from trivial) _, fun z => atKey_put_same (k := keyL y) htd.isMap (show True from trivial) _ z⟩
    · rw [if_neg hyx]
      have h9 := hf y
      rw [has_put_other (keyL_ne hyx)]
      cases hfy : f y with
      | none => rw [hfy] at h9; exact h9
      | some u => rw [hfy] at h9; exact ⟨h9.1, fun z => by rw [atKey_put_other (keyL_ne hyx)]; exact h9.2 z⟩
/-- delete(m, x). -/
theorem MapI.drop (h : MapI P k w b sz f) (hk : P.underlying k = some (.int .i64)) (ht : P.underlying t = some (.map k e)) {x : Int} (h1 : -9223372036854775808 ≤ x) (h2 : x ≤ 9223372036854775807) (ty : TypeId) :
    ∃ w', (Builtin.delete_ #[t, k] ty #[.map (some b), .int .i64 x]).run P w = .ok (.tuple #[]) w' ∧ MapI P k w' b (if (f x).isSome then sz - 1 else sz) (setF f x none) ∧ w.grownBy w' (some b) := by
  obtain ⟨D, ho, hs, hf, hks⟩ := h
  obtain ⟨w', hrun, ho', hg⟩ := ho.drop (int_keyed hk) ht (MapI.key hk h1 h2) ty
  have htd := ho.tidy (int_keyed hk)
  have hx := hf x
  have hsz : Maps.size (D.del (keyL x)) = if (f x).isSome then sz - 1 else sz := by
    have h9 := size_del (k := keyL x) htd
    cases hfx : f x with
    | none => rw [hfx] at hx; rw [show Maps.has D (keyL x) = false from hx] at h9; simp at h9 ⊢; omega
    | some u => rw [hfx] at hx; rw [hx.1] at h9; simp at h9 ⊢; omega
  refine ⟨w', hrun, ⟨_, ?_, hsz, fun y => ?_, hks.del x⟩, hg.grown⟩
  · obtain ⟨es, clock, hb, F, hle, hD⟩ := ho'
    refine ⟨es, clock, hb, F, ?_, hD⟩
    rw [← hsz, hD]
    show es.size ≤ ((es.toList.map _).foldr DataW.insert []).length
    rw [length_sorted]; simp
  · unfold setF
    by_cases hyx : y = x
    · subst hyx
      rw [if_pos rfl]
      exact has_del_same
    · rw [if_neg hyx]
      have h9 := hf y
      rw [has_del_other (keyL_ne hyx)]
      cases hfy : f y with
      | none => rw [hfy] at h9; exact h9
      | some u => rw [hfy] at h9; exact ⟨h9.1, fun z => by rw [atKey_del_other (keyL_ne hyx)]; exact h9.2 z⟩
/-- len(m). -/
theorem MapI.len (h : MapI P k w b sz f) (ht : P.underlying t = some (.map k e)) (ty : TypeId) : (Builtin.len_ #[t] ty #[.map (some b)]).run P w = .ok (.int .i64 sz) w := by
  obtain ⟨D, ho, hs, _⟩ := h
  rw [ho.len ht ty, hs]
/-- m[x] = v, at the operation. -/
theorem wpList_storeI {ops : Array Oper} {rest : List Oper} {o : Oper} {a : Act} {Q : Exit → Act → World → Prop} (hg : o.guard = none) (m x v : Operand) (hop : o.op = Op.mapUpdate t m x v) (hk : P.underlying k = some (.int .i64)) (ht : P.underlying t = some (.map k e))
    (hm : a.eval m = .map (some b)) (h : MapI P k w b sz f) (hn : sz < maxLen) (xi : Int) (hx : a.eval x = .int .i64 xi) (val : Value) (hv : a.eval v = val) (h1 : -9223372036854775808 ≤ xi) (h2 : xi ≤ 9223372036854775807)
    (hK : ∀ w', MapI P k w' b (if (f xi).isSome then sz else sz + 1) (setF f xi (some val)) → w.grownBy w' (some b) → wpList P ops Q rest (a.put o.dst undef) w') : wpList P ops Q (o :: rest) a w := by
  refine wpList_plain hg fun K' hK' => ?_
  obtain ⟨w', hrun, r1, r2⟩ := h.store hk ht hn val h1 h2
  unfold Oper.wp
  simp [execOp, hop, hm, hx, hv, hrun, Result.andThen]
  exact hK' _ _ (hK w' r1 r2)
theorem MapI.keys (h : MapI P k w b sz f) : Keys f sz := by obtain ⟨D, _, _, _, hks⟩ := h; exact hks
end
end Go.Proofs.YtbdfjboojokgdaaDoor
namespace Go.Proofs.YtbdfjboojokgdaaDoor
open Go.RowKit

/-- Numbers of what is not known that Go can hold. -/
def Ty.fit : Ty → Prop
  | .hole n => -9223372036854775808 ≤ n ∧ n ≤ 9223372036854775807
  | .app a b => a.fit ∧ b.fit
  | .all _ a => a.fit
  | _ => True
theorem Ty.fit_arg {t x : Ty} (h : t.fit) (hx : x ∈ t.args) : x.fit := by
  cases t <;> simp [Ty.args] at hx
  · rcases hx with rfl | rfl
    · exact h.1
    · exact h.2
  · subst hx; exact h
theorem Ty.fit_num {t : Ty} (h : t.fit) : -9223372036854775808 ≤ t.num ∧ t.num ≤ 9223372036854775807 := by
  cases t <;> first | exact h | (simp [Ty.num])
/-- What is known of which numbers were met. -/
def KnowsI (w : World) (mb : Nat) (zs : List Int) : Prop := ∃ sz f, MapI Tryd.prog 3 w mb sz f ∧ sz ≤ zs.length ∧ ∀ x, (x ∈ zs ∧ f x = some (.bool true)) ∨ (x ∉ zs ∧ f x = none)
theorem KnowsI.block {w w' : World} {mb : Nat} {zs : List Int} (h : KnowsI w mb zs) (hb : w'.heap[mb]? = w.heap[mb]?) : KnowsI w' mb zs := by
  obtain ⟨sz, f, h, r⟩ := h; exact ⟨sz, f, h.block hb, r⟩
theorem KnowsI.lt {w : World} {mb : Nat} {zs : List Int} (h : KnowsI w mb zs) : mb < w.heap.size := by obtain ⟨sz, f, h, r⟩ := h; exact h.lt
theorem KnowsI.noCell {w : World} {mb : Nat} {zs : List Int} (h : KnowsI w mb zs) (o : Nat) : w.cell? ⟨mb, o, none⟩ = none := by obtain ⟨sz, f, h, r⟩ := h; exact h.noCell o
theorem KnowsI.notCells {w : World} {mb : Nat} {zs : List Int} (h : KnowsI w mb zs) {u : Value} {t : TypeId} {b : Nat} (hb : w.heap[b]? = some (.cells #[u] t)) : b ≠ mb := fun e => by
  subst e
  have h1 := h.noCell 0
  rw [cell_of_one hb] at h1; cases h1
theorem zero4 (y : World) : (zeroValue 4).run Tryd.prog y = .ok (.bool false) y := Tryd.zeroValue4 y
theorem KnowsI.look {w : World} {mb : Nat} {zs : List Int} (h : KnowsI w mb zs) {x : Int} (h1 : -9223372036854775808 ≤ x) (h2 : x ≤ 9223372036854775807) : (Instr.lookup 95 (.map (some mb)) (.int .i64 x) false).run Tryd.prog w = .ok (.bool (decide (x ∈ zs))) w := by
  obtain ⟨sz, f, h, _, hf⟩ := h
  have h9 := h.look (t := 95) (e := 4) Tryd.underlying3 Tryd.underlying95 zero4 h1 h2
  rw [h9]
  rcases hf x with ⟨a, b⟩ | ⟨a, b⟩
  · rw [b, decide_eq_true a]; rfl
  · rw [b, decide_eq_false a]; rfl
theorem KnowsI.store {w : World} {mb : Nat} {zs : List Int} (h : KnowsI w mb zs) {x : Int} (h1 : -9223372036854775808 ≤ x) (h2 : x ≤ 9223372036854775807) (hl : zs.length ≤ 1099511627776) (hx : x ∉ zs) :
    ∃ w', (Instr.mapUpdate 95 (.map (some mb)) (.int .i64 x) (.bool true)).run Tryd.prog w = .ok () w' ∧ KnowsI w' mb (zs ++ [x]) ∧ w.grownBy w' (some mb) := by
  obtain ⟨sz, f, h, hs, hf⟩ := h
  obtain ⟨w', r1, r2, r3⟩ := h.store (t := 95) (e := 4) Tryd.underlying3 Tryd.underlying95 (by unfold maxLen; omega) (.bool true) h1 h2
  refine ⟨w', r1, ⟨_, _, r2, ?_, fun y => ?_⟩, r3⟩
  · rw [List.length_append]; simp; split <;> omega
  · by_cases e : y = x
    · subst e; exact .inl ⟨by simp, setF_self _ _ _⟩
    · rw [setF_ne _ _ e]
      rcases hf y with ⟨a, b⟩ | ⟨a, b⟩
      · exact .inl ⟨by simp [a], b⟩
      · exact .inr ⟨by simp [a, e], b⟩
/-- A box in which a row of numbers lies. -/
def NumsIn (base : Nat) (w : World) (nb : Nat) (zs : List Int) : Prop := ∃ v, w.heap[nb]? = some (.cells #[v] 22) ∧ OwnI base w v zs
structure MetSt (base sb nb mb : Nat) (l : List Ty) (w : World) : Prop where
  bs : base ≤ sb ∧ base ≤ nb ∧ base ≤ mb
  hs : w.heap[sb]? = some (.cells #[.map (some mb)] 95)
  hn : NumsIn base w nb (metasL l)
  hm : KnowsI w mb (metasL l)
def MetM (sb nb mb : Nat) (w : World) (k : Nat) : Prop := k = sb ∨ k = nb ∨ k = mb ∨ ∃ v, w.heap[nb]? = some (.cells #[v] 22) ∧ v.ownBlock = some k
theorem MetSt.nb_lt {base sb nb mb : Nat} {l : List Ty} {w : World} (h : MetSt base sb nb mb l w) : nb < w.heap.size := by obtain ⟨v, h, _⟩ := h.hn; exact lt_of_block h
theorem MetSt.lt {base sb nb mb : Nat} {l : List Ty} {w : World} (h : MetSt base sb nb mb l w) {k : Nat} (hk : MetM sb nb mb w k) : k < w.heap.size ∧ base ≤ k := by
  obtain ⟨v, h1, h2⟩ := h.hn
  rcases hk with rfl | rfl | rfl | ⟨v', h3, h4⟩
  · exact ⟨lt_of_block h.hs, h.bs.1⟩
  · exact ⟨lt_of_block h1, h.bs.2.1⟩
  · exact ⟨h.hm.lt, h.bs.2.2⟩
  · rw [h1] at h3
    injection h3 with h3; injection h3 with h3; injection h3 with h3; injection h3 with h3
    subst h3
    have := World.ownsRow.lt h2 k h4
    exact ⟨this.2, this.1⟩
theorem MetSt.keep {base sb nb mb : Nat} {l : List Ty} {w w' : World} (h : MetSt base sb nb mb l w) (hb : ∀ k, MetM sb nb mb w k → w'.heap[k]? = w.heap[k]?) : MetSt base sb nb mb l w' := by
  obtain ⟨v, h1, h2⟩ := h.hn
  exact ⟨h.bs, (hb sb (.inl rfl)).trans h.hs, ⟨v, (hb nb (.inr (.inl rfl))).trans h1, own_keep h2 (fun g hg => hb g (.inr (.inr (.inr ⟨v, h1, hg⟩))))⟩, h.hm.block (hb mb (.inr (.inr (.inl rfl))))⟩
theorem MetSt.on {base sb nb mb : Nat} {l : List Ty} {w w' : World} (h : MetSt base sb nb mb l w) (hb : Below w.heap.size w w') : MetSt base sb nb mb l w' := h.keep (fun k hk => hb.block k (h.lt hk).1)
theorem met_told (base sb nb mb : Nat) : Told base (MetM sb nb mb) (MetSt base sb nb mb) where
  new := fun _ w o h => h.on (below_new w o)
  drew := fun _ w h => h.on (Below.refl _ w).drew
  own := fun _ w o k h hk => by
    have hb := (below_new w o).block nb h.nb_lt
    unfold MetM at hk; rw [hb] at hk; exact hk
  lt := fun _ _ _ h hk => (h.lt hk).1
  base := fun _ _ _ h hk => (h.lt hk).2
theorem metasL_fit (l : List Ty) (h : ∀ t ∈ l, t.fit) : ∀ z ∈ metasL l, -9223372036854775808 ≤ z ∧ z ≤ 9223372036854775807 := by
  unfold metasL
  have : ∀ (l : List Ty) (out : List Int), (∀ t ∈ l, t.fit) → (∀ z ∈ out, -9223372036854775808 ≤ z ∧ z ≤ 9223372036854775807) → ∀ z ∈ l.foldl metaS out, -9223372036854775808 ≤ z ∧ z ≤ 9223372036854775807 := by
    intro l
    induction l with
    | nil => intro out _ h; exact h
    | cons a r ih =>
      intro out hl ho
      refine ih _ (fun t ht => hl t (List.mem_cons_of_mem _ ht)) ?_
      intro z hz
      unfold metaS at hz
      split at hz
      · rcases List.mem_append.1 hz with h | h
        · exact ho z h
        · simp at h; subst h; exact Ty.fit_num (hl a (List.mem_cons_self ..))
      · exact ho z hz
  exact this l [] h (fun z hz => absurd hz (by simp))
/-- One more is known, and stands behind. -/
theorem MetSt.step {base sb nb mb : Nat} {l : List Ty} {w W w1 w2 : World} {x : Int} {v : Value} {g cap : Nat} (t : Ty) (ht : metasL (l ++ [t]) = metasL l ++ [x]) (h : MetSt base sb nb mb l w) (hW : Below w.heap.size w W) (hv : W.heap[nb]? = some (.cells #[v] 22)) (h1 : KnowsI w1 mb (metasL l ++ [x])) (g1 : W.grownBy w1 (some mb)) (T : TypeId)
    (h2 : w2.ownsRow base 3 1 (.slice (some ⟨g, 0, none⟩) ((metasL l).length + 1) cap) ((metasL l).length + 1) ((metasL l).map (Value.int .i64) ++ [.int .i64 x])) (g2 : (w1.alloc (.cells #[.int .i64 x] T)).grownBy w2 v.ownBlock) (hat : v.ownBlock = some g ∨ g = w1.heap.size + 1) :
    MetSt base sb nb mb (l ++ [t]) (w2.setCell ⟨nb, 0, none⟩ (.slice (some ⟨g, 0, none⟩) ((metasL l).length + 1) cap)) ∧ FrM (MetM sb nb mb) w (w2.setCell ⟨nb, 0, none⟩ (.slice (some ⟨g, 0, none⟩) ((metasL l).length + 1) cap)) := by
  obtain ⟨v', hn1, hn2⟩ := (h.on hW).hn
  rw [hv] at hn1
  injection hn1 with hn1; injection hn1 with hn1; injection hn1 with hn1; injection hn1 with hn1
  subst hn1
  have hw := hW.size
  have hz1 := g1.size
  have hz2 := g2.size
  simp only [World.size_alloc] at hz2
  have hnbW := lt_of_block hv
  have hnb := h.nb_lt
  have hwv : w.heap[nb]? = some (.cells #[v] 22) := by rw [← hW.block nb hnb]; exact hv
  -- blocks other than these
  have hblk : ∀ k, k < w.heap.size → ¬ MetM sb nb mb w k → (w2.setCell ⟨nb, 0, none⟩ (.slice (some ⟨g, 0, none⟩) ((metasL l).length + 1) cap)).heap[k]? = w.heap[k]? := fun k hk hm => by
    have e1 : k ≠ nb := fun e => hm (.inr (.inl e))
    have e2 : some k ≠ some mb := fun e => by injection e with e; exact hm (.inr (.inr (.inl e)))
    have e3 : some k ≠ v.ownBlock := fun e => hm (.inr (.inr (.inr ⟨v, hwv, e.symm⟩)))
    rw [Below.heap_setCell _ _ _ _ e1, g2.block k (by simp; omega) e3, (below_new w1 _).block k (by omega), g1.block k (by omega) e2, hW.block k hk]
  have hW2 : w2.heap[nb]? = some (.cells #[v] 22) := by
    rw [g2.block nb (by simp; omega) (fun e => own_not hn2 hv (by decide) e.symm), (below_new w1 _).block nb (by omega), g1.block nb (by omega) (fun e => by injection e with e; exact (h.on hW).hm.notCells hv e), hv]
  have hgm : ∀ k, w2.heap[k]? = w1.heap[k]? → (w2.setCell ⟨nb, 0, none⟩ (.slice (some ⟨g, 0, none⟩) ((metasL l).length + 1) cap)).heap[k]? = w1.heap[k]? ∨ k = nb := fun k hk => by
    by_cases e : k = nb
    · exact .inr e
    · exact .inl (by rw [Below.heap_setCell _ _ _ _ e]; exact hk)
  have hsW := (h.on hW).hs
  have hsb : (w2.setCell ⟨nb, 0, none⟩ (.slice (some ⟨g, 0, none⟩) ((metasL l).length + 1) cap)).heap[sb]? = some (.cells #[.map (some mb)] 95) := by
    have e1 : sb ≠ nb := fun e => by rw [e, hv] at hsW; injection hsW with hsW; injection hsW with _ hsW; cases hsW
    rw [Below.heap_setCell _ _ _ _ e1, g2.block sb (by simp; have := lt_of_block hsW; omega) (fun e => own_not hn2 hsW (by decide) e.symm), (below_new w1 _).block sb (by have := lt_of_block hsW; omega), g1.block sb (lt_of_block hsW) (fun e => by injection e with e; exact (h.on hW).hm.notCells hsW e), hsW]
  have hmb : (w2.setCell ⟨nb, 0, none⟩ (.slice (some ⟨g, 0, none⟩) ((metasL l).length + 1) cap)).heap[mb]? = w1.heap[mb]? := by
    have e1 : mb ≠ nb := fun e => (h.on hW).hm.notCells hv e.symm
    rw [Below.heap_setCell _ _ _ _ e1, g2.block mb (by simp; have := h1.lt; omega) (fun e => by
      obtain ⟨cur, hc⟩ := own_type hn2 e.symm
      have h9 := (h.on hW).hm
      obtain ⟨sz, f, ⟨D, ⟨es, clock, hb, _⟩, _⟩, _⟩ := h9
      rw [hc] at hb; cases hb), (below_new w1 _).block mb h1.lt]
  have hnn := one_setCell (u := .slice (some ⟨g, 0, none⟩) ((metasL l).length + 1) cap) hW2
  have hown : (w2.setCell ⟨nb, 0, none⟩ (.slice (some ⟨g, 0, none⟩) ((metasL l).length + 1) cap)).ownsRow base 3 1 (.slice (some ⟨g, 0, none⟩) ((metasL l).length + 1) cap) ((metasL l).length + 1) ((metasL l).map (Value.int .i64) ++ [.int .i64 x]) :=
    ownsRow_setCell_other h2 (own_not h2 hW2 (by decide)) _
  have hlen : (metasL l ++ [x]).length = (metasL l).length + 1 := by simp
  refine ⟨⟨h.bs, hsb, ⟨_, hnn, ?_⟩, ?_⟩, ?_, ?_, ?_, ?_, hblk, ?_⟩
  · rw [ht]; unfold OwnI; rw [hlen, List.map_append]; exact hown
  · rw [ht]; exact h1.block hmb
  · show w2.os = w.os
    exact g2.os.trans (g1.os.trans hW.os)
  · show w2.tape = w.tape
    exact g2.tape.trans (g1.tape.trans hW.tape)
  · show w2.output = w.output
    exact g2.output.trans (g1.output.trans hW.output)
  · simp; omega
  · intro k hk hm
    rcases hm with e | e | e | ⟨v', e1, e2⟩
    · exact .inl e
    · exact .inr (.inl e)
    · exact .inr (.inr (.inl e))
    · rw [hnn] at e1
      injection e1 with e1; injection e1 with e1; injection e1 with e1; injection e1 with e1
      subst e1
      have e3 : g = k := by simpa [Value.ownBlock] using e2
      subst e3
      rcases hat with h9 | h9
      · exact .inr (.inr (.inr ⟨v, hwv, h9⟩))
      · omega
end Go.Proofs.YtbdfjboojokgdaaDoor
