/- A map in memory whose keys are texts, as a function from keys to the values that lie there. No program; no conditions but those that each theorem names. Which types are the same, but for the names that are given (chapter 4), as a function; maps that tell how deep a name is given; frames. No conditions but those that each theorem names. The contract of the document's Size (chapter 4). Condition: the type has at most 2^40 nodes. -/
import Derived.Maps.OwnSet
import Derived.Maps.Views
import Derived.WalkKit
import Derived.StringKeys
import Derived.Test.YtbdfjboojokgdaaDoorJU07
namespace Go.Proofs.YtbdfjboojokgdaaDoor
open Go.RowKit Go.Maps Go.WideMaps

instance baLawful : LawfulBEq ByteArray where
  eq_of_beq {a b} h := by
    have h' : (a.data == b.data) = true := h
    rw [beq_iff_eq] at h'
    cases a; cases b; simp at h'; rw [h']
  rfl {a} := by show (a.data == a.data) = true; simp
/-- Each element's value reads as itself. -/
def rawS (v : Value) : Option (DataW Value × List MemPlace) := some (.held v, [])
def keyS (x : ByteArray) : Lit := .string x.data.toList
/-- So many keys there are at which f says something. -/
def KeysS (f : ByteArray → Option Value) (sz : Nat) : Prop := ∃ keys : List ByteArray, keys.Nodup ∧ keys.length = sz ∧ ∀ x, x ∈ keys ↔ f x ≠ none
def setS (f : ByteArray → Option Value) (x : ByteArray) (v : Option Value) : ByteArray → Option Value := fun y => if y = x then v else f y
theorem setS_self (f : ByteArray → Option Value) (x : ByteArray) (v : Option Value) : setS f x v x = v := by unfold setS; rw [if_pos rfl]
theorem setS_ne (f : ByteArray → Option Value) {x y : ByteArray} (v : Option Value) (h : y ≠ x) : setS f x v y = f y := by unfold setS; rw [if_neg h]
theorem KeysS.set {f : ByteArray → Option Value} {sz : Nat} (h : KeysS f sz) (x : ByteArray) (v : Value) : KeysS (setS f x (some v)) (if (f x).isSome then sz else sz + 1) := by
  obtain ⟨ks, hn, hl, hk⟩ := h
  by_cases hx : (f x).isSome = true
  · rw [if_pos hx]
    refine ⟨ks, hn, hl, fun y => ?_⟩
    by_cases e : y = x
    · subst e; rw [setS_self]; exact ⟨fun _ h => (by cases h), fun _ => (hk y).2 (fun h => by rw [h] at hx; cases hx)⟩
    · rw [setS_ne _ _ e]; exact hk y
  · rw [if_neg hx]
    have hx' : f x = none := by cases h : f x with | none => rfl | some u => rw [h] at hx; exact absurd rfl hx
    refine ⟨x :: ks, List.nodup_cons.2 ⟨fun h => (hk x).1 h hx', hn⟩, by simp [hl], fun y => ?_⟩
    by_cases e : y = x
    · subst e; rw [setS_self]; exact ⟨fun _ h => (by cases h), fun _ => List.mem_cons_self ..⟩
    · rw [setS_ne _ _ e, List.mem_cons]; exact ⟨fun h => (hk y).1 (h.resolve_left e), fun h => .inr ((hk y).2 h)⟩
theorem KeysS.del {f : ByteArray → Option Value} {sz : Nat} (h : KeysS f sz) (x : ByteArray) : KeysS (setS f x none) (if (f x).isSome then sz - 1 else sz) := by
  obtain ⟨ks, hn, hl, hk⟩ := h
  by_cases hx : (f x).isSome = true
  · rw [if_pos hx]
    have hm : x ∈ ks := (hk x).2 (fun h => by rw [h] at hx; cases hx)
    refine ⟨ks.erase x, hn.erase x, by rw [List.length_erase_of_mem hm, hl], fun y => ?_⟩
    by_cases e : y = x
    · subst e; rw [setS_self]; exact ⟨fun h => absurd h (fun h9 => (hn.mem_erase_iff.1 h9).1 rfl), fun h => absurd rfl h⟩
    · rw [setS_ne _ _ e, List.mem_erase_of_ne e]; exact hk y
  · rw [if_neg hx]
    have hx' : f x = none := by cases h : f x with | none => rfl | some u => rw [h] at hx; exact absurd rfl hx
    refine ⟨ks, hn, hl, fun y => ?_⟩
    by_cases e : y = x
    · subst e; rw [setS_self]; exact ⟨fun h => absurd hx' ((hk y).1 h), fun h => absurd rfl h⟩
    · rw [setS_ne _ _ e]; exact hk y
theorem nodup_leS : ∀ {a b : List ByteArray}, a.Nodup → (∀ x ∈ a, x ∈ b) → a.length ≤ b.length
  | [], _, _, _ => Nat.zero_le _
  | x :: a, b, hn, hs => by
    have hn' := List.nodup_cons.1 hn
    have hx : x ∈ b := hs x (List.mem_cons_self ..)
    have := nodup_leS (b := b.erase x) hn'.2 (fun y hy => (List.mem_erase_of_ne (fun e => hn'.1 (by rw [← e]; exact hy))).2 (hs y (List.mem_cons_of_mem _ hy)))
    rw [List.length_erase_of_mem hx] at this
    have := List.length_pos_of_mem hx
    simp only [List.length_cons]; omega
theorem KeysS.le {f g : ByteArray → Option Value} {s s' : Nat} (h : KeysS f s) (h' : KeysS g s') (hs : ∀ x, f x ≠ none → g x ≠ none) : s ≤ s' := by
  obtain ⟨ks, hn, hl, hk⟩ := h
  obtain ⟨ks', _, hl', hk'⟩ := h'
  rw [← hl, ← hl']
  exact nodup_leS hn (fun x hx => (hk' x).2 (hs x ((hk x).1 hx)))
/-- Block b is a map of so many entries: at each key what f says. -/
def MapS (P : Program) (k : TypeId) (w : World) (b sz : Nat) (f : ByteArray → Option Value) : Prop :=
  ∃ D : DataW Value, w.ownsMap P k rawS b sz D ∧ Maps.size D = sz ∧ (∀ x : ByteArray, match f x with | none => Maps.has D (keyS x) = false | some v => Maps.has D (keyS x) = true ∧ ∀ z, D.atKey (keyS x) z = .held v) ∧ KeysS f sz
theorem keyS_ne {x y : ByteArray} (h : y ≠ x) : keyS y ≠ keyS x := fun e => h (by
  unfold keyS at e
  injection e with e
  cases x; cases y
  simp only at e
  rw [Array.toList_inj.1 e])
theorem MapS.made (P : Program) (k : TypeId) (w : World) : MapS P k (w.alloc (.map #[] 0)) w.heap.size 0 (fun _ => none) := ⟨.map [], World.ownsMap_made w P k rawS, rfl, fun _ => rfl, [], List.nodup_nil, rfl, fun _ => ⟨fun h => absurd h (by simp), fun h => absurd rfl h⟩⟩
theorem MapS.lt {P : Program} {k : TypeId} {w : World} {b sz : Nat} {f : ByteArray → Option Value} (h : MapS P k w b sz f) : b < w.heap.size := by obtain ⟨D, h, _⟩ := h; exact h.lt
theorem MapS.kept {P : Program} {k : TypeId} {w w' : World} {b sz : Nat} {f : ByteArray → Option Value} {row : Option Nat} (h : MapS P k w b sz f) (hg : w.grownBy w' row) (hne : some b ≠ row) : MapS P k w' b sz f := by
  obtain ⟨D, h, r⟩ := h; exact ⟨D, h.kept hg hne, r⟩
theorem MapS.block {P : Program} {k : TypeId} {w w' : World} {b sz : Nat} {f : ByteArray → Option Value} (h : MapS P k w b sz f) (hb : w'.heap[b]? = w.heap[b]?) : MapS P k w' b sz f := by
  obtain ⟨D, ⟨es, clock, e, r⟩, q⟩ := h; exact ⟨D, ⟨es, clock, hb.trans e, r⟩, q⟩
theorem MapS.on {P : Program} {k : TypeId} {w w' : World} {b sz : Nat} {f : ByteArray → Option Value} (h : MapS P k w b sz f) (hb : Below w.heap.size w w') : MapS P k w' b sz f := h.block (hb.block b h.lt)
theorem MapS.setCell {P : Program} {k : TypeId} {w : World} {b sz : Nat} {f : ByteArray → Option Value} (h : MapS P k w b sz f) {a : Addr} (ha : b ≠ a.block) (u : Value) : MapS P k (w.setCell a u) b sz f := by
  obtain ⟨D, h, r⟩ := h; exact ⟨D, h.setCell ha u, r⟩
/-- No cell is a map's. -/
theorem MapS.noCell {P : Program} {k : TypeId} {w : World} {b sz : Nat} {f : ByteArray → Option Value} (h : MapS P k w b sz f) (o : Nat) : w.cell? ⟨b, o, none⟩ = none := by
  obtain ⟨D, ⟨es, clock, hb, _⟩, _⟩ := h
  simp [World.cell?, hb]
section
variable {P : Program} {k t e : TypeId} {w : World} {b sz : Nat} {f : ByteArray → Option Value}
theorem MapS.key (hk : P.underlying k = some .string) {x : ByteArray} (h1 : x.size ≤ maxLen) : keyOf P k (.string x) = some (keyS x) := keyOf_string_mk hk h1
/-- v, ok := m[x]. -/
theorem MapS.look_ok (h : MapS P k w b sz f) (hk : P.underlying k = some .string) (ht : P.underlying t = some (.map k e)) {z : Value} (hz : ∀ y, (zeroValue e).run P y = .ok z y) {x : ByteArray} (h1 : x.size ≤ maxLen) :
    (Instr.lookup t (.map (some b)) (.string x) true).run P w = .ok (.tuple #[(f x).getD z, .bool (f x).isSome]) w := by
  obtain ⟨D, ho, _, hf, _⟩ := h
  obtain ⟨v, ps, hrun, hv⟩ := ho.look_ok (string_keyed hk) ht (hz w) (zd := .held z) (zp := []) rfl (MapS.key hk h1)
  have hx := hf x
  have hv' : DataW.held v = D.atKey (keyS x) (.held z) := by unfold rawS at hv; injection hv with hv; injection hv with hv _
  rw [hrun]
  cases hfx : f x with
  | none =>
    rw [hfx] at hx
    have h9 := atKey_of_not_has hx (.held z)
    rw [h9] at hv'
    injection hv' with hv'
    rw [hv', show Maps.has D (keyS x) = false from hx]; rfl
  | some u =>
    rw [hfx] at hx
    rw [hx.2 (.held z)] at hv'
    injection hv' with hv'
    rw [hv', hx.1]; rfl
/-- m[x]. -/
theorem MapS.look (h : MapS P k w b sz f) (hk : P.underlying k = some .string) (ht : P.underlying t = some (.map k e)) {z : Value} (hz : ∀ y, (zeroValue e).run P y = .ok z y) {x : ByteArray} (h1 : x.size ≤ maxLen) :
    (Instr.lookup t (.map (some b)) (.string x) false).run P w = .ok ((f x).getD z) w := by
  obtain ⟨D, ho, _, hf, _⟩ := h
  obtain ⟨v, ps, hrun, hv⟩ := ho.lookup (string_keyed hk) ht (hz w) (zd := .held z) (zp := []) rfl (MapS.key hk h1)
  have hx := hf x
  have hv' : DataW.held v = D.atKey (keyS x) (.held z) := by unfold rawS at hv; injection hv with hv; injection hv with hv _
  rw [hrun]
  cases hfx : f x with
  | none =>
    rw [hfx] at hx
    have h9 := atKey_of_not_has hx (.held z)
    rw [h9] at hv'
    injection hv' with hv'
    rw [hv']; rfl
  | some u =>
    rw [hfx] at hx
    rw [hx.2 (.held z)] at hv'
    injection hv' with hv'
    rw [hv']; rfl
/-- m[x] = v. -/
theorem MapS.store (h : MapS P k w b sz f) (hk : P.underlying k = some .string) (ht : P.underlying t = some (.map k e)) (hn : sz < maxLen) (v : Value) {x : ByteArray} (h1 : x.size ≤ maxLen) :
    ∃ w', (Instr.mapUpdate t (.map (some b)) (.string x) v).run P w = .ok () w' ∧ MapS P k w' b (if (f x).isSome then sz else sz + 1) (setS f x (some v)) ∧ w.grownBy w' (some b) := by
  obtain ⟨D, ho, hs, hf, hks⟩ := h
  obtain ⟨w', hrun, ho', hg⟩ := ho.update (string_keyed hk) ht hn (d := .held v) (ps := []) (MapS.key hk h1) rfl
  have htd := ho.tidy (string_keyed hk)
  have hx := hf x
  have hsz : Maps.size (D.put (keyS x) (.held v)) = if (f x).isSome then sz else sz + 1 := by
    rw [size_put htd, hs]
    cases hfx : f x with
    | none => rw [hfx] at hx; rw [show Maps.has D (keyS x) = false from hx]; rfl
    | some u => rw [hfx] at hx; rw [hx.1]; rfl
  refine ⟨w', hrun, ⟨_, ?_, hsz, fun y => ?_, hks.set x v⟩, hg⟩
  · obtain ⟨es, clock, hb, F, hle, hD⟩ := ho'
    refine ⟨es, clock, hb, F, ?_, hD⟩
    rw [← hsz, hD]
    show es.size ≤ ((es.toList.map _).foldr DataW.insert []).length
    rw [length_sorted]; simp
  · unfold setS
    by_cases hyx : y = x
    · subst hyx
      rw [if_pos rfl]
      exact ⟨has_put_same (k := keyS y) htd.isMap (show True from trivial) _, fun z => atKey_put_same (k := keyS y) htd.isMap (show True from trivial) _ z⟩
    · rw [if_neg hyx]
      have h9 := hf y
      rw [has_put_other (keyS_ne hyx)]
      cases hfy : f y with
      | none => rw [hfy] at h9; exact h9
      | some u => rw [hfy] at h9; exact ⟨h9.1, fun z => by rw [atKey_put_other (keyS_ne hyx)]; exact h9.2 z⟩
/-- delete(m, x). -/
theorem MapS.drop (h : MapS P k w b sz f) (hk : P.underlying k = some .string) (ht : P.underlying t = some (.map k e)) {x : ByteArray} (h1 : x.size ≤ maxLen) (ty : TypeId) :
    ∃ w', (Builtin.delete_ #[t, k] ty #[.map (some b), .string x]).run P w = .ok (.tuple #[]) w' ∧ MapS P k w' b (if (f x).isSome then sz - 1 else sz) (setS f x none) ∧ w.grownBy w' (some b) := by
  obtain ⟨D, ho, hs, hf, hks⟩ := h
  obtain ⟨w', hrun, ho', hg⟩ := ho.drop (string_keyed hk) ht (MapS.key hk h1) ty
  have htd := ho.tidy (string_keyed hk)
  have hx := hf x
  have hsz : Maps.size (D.del (keyS x)) = if (f x).isSome then sz - 1 else sz := by
    have h9 := size_del (k := keyS x) htd
    cases hfx : f x with
    | none => rw [hfx] at hx; rw [show Maps.has D (keyS x) = false from hx] at h9; simp at h9 ⊢; omega
    | some u => rw [hfx] at hx; rw [hx.1] at h9; simp at h9 ⊢; omega
  refine ⟨w', hrun, ⟨_, ?_, hsz, fun y => ?_, hks.del x⟩, hg.grown⟩
  · obtain ⟨es, clock, hb, F, hle, hD⟩ := ho'
    refine ⟨es, clock, hb, F, ?_, hD⟩
    rw [← hsz, hD]
    show es.size ≤ ((es.toList.map _).foldr DataW.insert []).length
    rw [length_sorted]; simp
  · unfold setS
    by_cases hyx : y = x
    · subst hyx
      rw [if_pos rfl]
      exact has_del_same
    · rw [if_neg hyx]
      have h9 := hf y
      rw [has_del_other (keyS_ne hyx)]
      cases hfy : f y with
      | none => rw [hfy] at h9; exact h9
      | some u => rw [hfy] at h9; exact ⟨h9.1, fun z => by rw [atKey_del_other (keyS_ne hyx)]; exact h9.2 z⟩
/-- len(m). -/
theorem MapS.len (h : MapS P k w b sz f) (ht : P.underlying t = some (.map k e)) (ty : TypeId) : (Builtin.len_ #[t] ty #[.map (some b)]).run P w = .ok (.int .i64 sz) w := by
  obtain ⟨D, ho, hs, _⟩ := h
  rw [ho.len ht ty, hs]
/-- m[x] = v, at the operation. -/
theorem wpList_storeS {ops : Array Oper} {rest : List Oper} {o : Oper} {a : Act} {Q : Exit → Act → World → Prop} (hg : o.guard = none) (m x v : Operand) (hop : o.op = Op.mapUpdate t m x v) (hk : P.underlying k = some .string) (ht : P.underlying t = some (.map k e))
    (hm : a.eval m = .map (some b)) (h : MapS P k w b sz f) (hn : sz < maxLen) (xi : ByteArray) (hx : a.eval x = .string xi) (val : Value) (hv : a.eval v = val) (h1 : xi.size ≤ maxLen)
    (hK : ∀ w', MapS P k w' b (if (f xi).isSome then sz else sz + 1) (setS f xi (some val)) → w.grownBy w' (some b) → wpList P ops Q rest (a.put o.dst undef) w') : wpList P ops Q (o :: rest) a w := by
  refine wpList_plain hg fun K' hK' => ?_
  obtain ⟨w', hrun, r1, r2⟩ := h.store hk ht hn val h1
  unfold Oper.wp
  simp [execOp, hop, hm, hx, hv, hrun, Result.andThen]
  exact hK' _ _ (hK w' r1 r2)
theorem MapS.keys (h : MapS P k w b sz f) : KeysS f sz := by obtain ⟨D, _, _, _, hks⟩ := h; exact hks
end
end Go.Proofs.YtbdfjboojokgdaaDoor
namespace Go.Proofs.YtbdfjboojokgdaaDoor
open Go.RowKit

def updG (g : ByteArray → Int) (s : ByteArray) (v : Int) : ByteArray → Int := fun x => if x = s then v else g x
/-- The same, where fa and fb say how deep names are given. -/
def sameT (fa fb : ByteArray → Int) (d : Int) : Ty → Ty → Bool
  | .hole n, .hole m => n == m
  | .var s, .var t => fa s == fb t && (decide (0 < fa s) || s == t)
  | .con s, .con t => s == t
  | .app a b, .app a' b' => sameT fa fb d a a' && sameT fa fb d b b'
  | .all s a, .all s' a' => sameT (updG fa s (d + 1)) (updG fb s' (d + 1)) (d + 1) a a'
  | _, _ => false
def sameL (fa fb : ByteArray → Int) (d : Int) : List Ty → List Ty → Bool
  | a :: l, b :: r => sameT fa fb d a b && sameL fa fb d l r
  | _, _ => true
theorem sameT_no {fa fb : ByteArray → Int} {d : Int} {a b : Ty} (h : a.form ≠ b.form ∨ a.num ≠ b.num) : sameT fa fb d a b = false := by
  cases a <;> cases b <;> simp [Ty.form, Ty.num] at h <;> first | rfl | (simp only [sameT]; simpa using h)
theorem sameT_var {fa fb : ByteArray → Int} {d : Int} {a b : Ty} (h : a.form = 2) (h' : b.form = 2) : sameT fa fb d a b = (fa a.name == fb b.name && (decide (0 < fa a.name) || a.name == b.name)) := by
  cases a <;> simp [Ty.form] at h
  cases b <;> simp [Ty.form] at h'
  rfl
theorem sameT_all {fa fb : ByteArray → Int} {d : Int} {a b : Ty} (h : a.form = 5) (h' : b.form = 5) : sameT fa fb d a b = sameL (updG fa a.name (d + 1)) (updG fb b.name (d + 1)) (d + 1) a.args b.args := by
  cases a <;> simp [Ty.form] at h
  cases b <;> simp [Ty.form] at h'
  simp [sameT, sameL, Ty.args, Ty.name]
theorem sameT_else {fa fb : ByteArray → Int} {d : Int} {a b : Ty} (h : a.form = b.form) (hn : a.num = b.num) (h2 : a.form ≠ 2) (h5 : a.form ≠ 5) : sameT fa fb d a b = (a.name == b.name && sameL fa fb d a.args b.args) := by
  cases a <;> cases b <;> simp [Ty.form, Ty.num] at h hn h2 h5 <;> simp [sameT, sameL, Ty.args, Ty.name, hn]
theorem args_len {a b : Ty} (h : a.form = b.form) : a.args.length = b.args.length := by
  cases a <;> cases b <;> simp [Ty.form] at h <;> rfl
/-- Names that may be a map's keys. -/
def Ty.short : Ty → Prop
  | .var s => s.size ≤ 1099511627776
  | .con s => s.size ≤ 1099511627776
  | .app a b => a.short ∧ b.short
  | .all s a => s.size ≤ 1099511627776 ∧ a.short
  | .hole _ => True
theorem Ty.short_name {t : Ty} (h : t.short) : t.name.size ≤ 1099511627776 := by
  cases t with
  | hole n => exact Nat.zero_le _
  | var s => exact h
  | con s => exact h
  | app a b => exact Nat.zero_le _
  | all s a => exact h.1
theorem Ty.short_arg {t x : Ty} (h : t.short) (hx : x ∈ t.args) : x.short := by
  cases t <;> simp [Ty.args] at hx
  · rcases hx with rfl | rfl
    · exact h.1
    · exact h.2
  · subst hx; exact h.2
/-- Blocks other than these stay. -/
structure Fr (M : Nat → Prop) (w w' : World) : Prop where
  os : w'.os = w.os
  tape : w'.tape = w.tape
  output : w'.output = w.output
  size : w.heap.size ≤ w'.heap.size
  block : ∀ k, k < w.heap.size → ¬ M k → w'.heap[k]? = w.heap[k]?
theorem Fr.refl (M : Nat → Prop) (w : World) : Fr M w w := ⟨rfl, rfl, rfl, Nat.le_refl _, fun _ _ _ => rfl⟩
theorem Fr.trans {M : Nat → Prop} {a b c : World} (h : Fr M a b) (k : Fr M b c) : Fr M a c :=
  ⟨k.os.trans h.os, k.tape.trans h.tape, k.output.trans h.output, Nat.le_trans h.size k.size, fun i hi hm => (k.block i (Nat.lt_of_lt_of_le hi h.size) hm).trans (h.block i hi hm)⟩
theorem Fr.of_below {M : Nat → Prop} {w w' : World} (h : Below w.heap.size w w') : Fr M w w' := ⟨h.os, h.tape, h.output, h.size, fun k hk _ => h.block k hk⟩
theorem Fr.drew {M : Nat → Prop} {a w : World} (h : Fr M a w) : Fr M a w.drew := ⟨h.os, h.tape, h.output, h.size, h.block⟩
theorem Fr.grown {M : Nat → Prop} {a w w' : World} {b : Nat} (h : Fr M a w) (hg : w.grownBy w' (some b)) (hb : M b) : Fr M a w' :=
  h.trans ⟨hg.os, hg.tape, hg.output, hg.size, fun k hk hm => hg.block k hk (fun e => by injection e with e; exact hm (e ▸ hb))⟩
theorem Fr.below {M : Nat → Prop} {w w' : World} {B : Nat} (h : Fr M w w') (hB : B ≤ w.heap.size) (hM : ∀ k, M k → B ≤ k) : Below B w w' :=
  ⟨h.os, h.tape, h.output, h.size, fun k hk => h.block k (by omega) (fun hm => by have := hM k hm; omega)⟩
theorem Fr.mono {M M' : Nat → Prop} {w w' : World} (h : Fr M w w') (hm : ∀ k, M k → M' k) : Fr M' w w' := ⟨h.os, h.tape, h.output, h.size, fun k hk hn => h.block k hk (fun h9 => hn (hm k h9))⟩
/-- Types lie where cells lie. -/
theorem TyAt.fr {P M : Nat → Prop} {w w' : World} {t : Ty} {v : Value} (h : TyAt P w t v) (hf : Fr M w w') (hM : ∀ k, M k → ∀ o, w.cell? ⟨k, o, none⟩ = none) : TyAt P w' t v := by
  have h2 := h.bound
  have h3 : TyAt (fun b => P b ∧ b < w.heap.size) w' t v := h2.some hf.size (fun b off u hp hu => by
    have hnm : ¬ M b := fun hm => by rw [hM b hm off] at hu; cases hu
    exact (World.cell?_of_block (a := ⟨b, off, none⟩) (hf.block b hp.2 hnm)).trans hu)
  exact h3.mono (fun _ hb => hb.1)
theorem TysAt.fr {P M : Nat → Prop} {w w' : World} {ts : List Ty} {v : Value} (h : TysAt P w ts v) (hf : Fr M w w') (hM : ∀ k, M k → ∀ o, w.cell? ⟨k, o, none⟩ = none) : TysAt P w' ts v := by
  obtain ⟨A, c, u, e, hc, hm, hrow, hk⟩ := h
  refine ⟨A, c, u, e, hc, hm, ?_, fun i h => (hk i h).fr hf hM⟩
  rcases hrow with h | ⟨b, off, e, hp, hlt, hcell⟩
  · exact .inl h
  · refine .inr ⟨b, off, e, hp, Nat.lt_of_lt_of_le hlt hf.size, fun i j hi hj => ?_⟩
    have hu := hcell i j hi hj
    have hnm : ¬ M b := fun hm => by rw [hM b hm _] at hu; cases hu
    exact (World.cell?_of_block (a := ⟨b, _, none⟩) (hf.block b hlt hnm)).trans hu
/-- A map in memory that tells numbers; 0 where nothing is kept. -/
def MapG (w : World) (b : Nat) (g : ByteArray → Int) (N : Nat) : Prop := ∃ sz f, MapS Tryd.prog 9 w b sz f ∧ sz ≤ N ∧ ∀ s, (f s = none ∧ g s = 0) ∨ f s = some (.int .i64 (g s))
theorem MapG.lt {w : World} {b : Nat} {g : ByteArray → Int} {N : Nat} (h : MapG w b g N) : b < w.heap.size := by obtain ⟨sz, f, h, _⟩ := h; exact h.lt
theorem MapG.block {w w' : World} {b : Nat} {g : ByteArray → Int} {N : Nat} (h : MapG w b g N) (hb : w'.heap[b]? = w.heap[b]?) : MapG w' b g N := by
  obtain ⟨sz, f, h, r⟩ := h; exact ⟨sz, f, h.block hb, r⟩
theorem MapG.on {w w' : World} {b : Nat} {g : ByteArray → Int} {N : Nat} (h : MapG w b g N) (hb : Below w.heap.size w w') : MapG w' b g N := h.block (hb.block b h.lt)
theorem MapG.more {w : World} {b : Nat} {g : ByteArray → Int} {N N' : Nat} (h : MapG w b g N) (hn : N ≤ N') : MapG w b g N' := by
  obtain ⟨sz, f, h, h1, h2⟩ := h; exact ⟨sz, f, h, Nat.le_trans h1 hn, h2⟩
theorem MapG.noCell {w : World} {b : Nat} {g : ByteArray → Int} {N : Nat} (h : MapG w b g N) (o : Nat) : w.cell? ⟨b, o, none⟩ = none := by
  obtain ⟨sz, f, h, _⟩ := h; exact h.noCell o
theorem zero3 (y : World) : (zeroValue 3).run Tryd.prog y = .ok (.int .i64 0) y := Tryd.zeroValue3 y
theorem MapG.look {w : World} {b : Nat} {g : ByteArray → Int} {N : Nat} (h : MapG w b g N) {x : ByteArray} (hx : x.size ≤ 1099511627776) : (Instr.lookup 105 (.map (some b)) (.string x) false).run Tryd.prog w = .ok (.int .i64 (g x)) w := by
  obtain ⟨sz, f, h, _, hf⟩ := h
  have h9 := h.look (t := 105) (e := 3) Tryd.underlying9 Tryd.underlying105 zero3 (x := x) (by unfold maxLen; omega)
  rw [h9]
  rcases hf x with ⟨h1, h2⟩ | h1
  · rw [h1, h2]; rfl
  · rw [h1]; rfl
theorem MapG.store {w : World} {b : Nat} {g : ByteArray → Int} {N : Nat} (h : MapG w b g N) {x : ByteArray} (hx : x.size ≤ 1099511627776) (v : Int) (hN : N ≤ 1099511627776) :
    ∃ w', (Instr.mapUpdate 105 (.map (some b)) (.string x) (.int .i64 v)).run Tryd.prog w = .ok () w' ∧ MapG w' b (updG g x v) (N + 1) ∧ w.grownBy w' (some b) := by
  obtain ⟨sz, f, h, hs, hf⟩ := h
  obtain ⟨w', h1, h2, h3⟩ := h.store (t := 105) (e := 3) Tryd.underlying9 Tryd.underlying105 (by unfold maxLen; omega) (.int .i64 v) (x := x) (by unfold maxLen; omega)
  refine ⟨w', h1, ⟨_, _, h2, by split <;> omega, fun s => ?_⟩, h3⟩
  unfold setS updG
  by_cases e : s = x
  · rw [if_pos e, if_pos e]; exact .inr rfl
  · rw [if_neg e, if_neg e]; exact hf s
theorem upd_back (g : ByteArray → Int) (s : ByteArray) (v : Int) : updG (updG g s v) s (g s) = g := by
  funext x
  unfold updG
  by_cases e : x = s
  · rw [if_pos e, e]
  · rw [if_neg e, if_neg e]
end Go.Proofs.YtbdfjboojokgdaaDoor
namespace Go.Proofs.YtbdfjboojokgdaaDoor
open Go.RowKit

/-- How many names and numbers there are. -/
def Ty.count : Ty → Nat
  | .app a b => a.count + b.count | .all _ a => 1 + a.count | _ => 1
def Ty.own1 (t : Ty) : Nat := if t.form = 4 then 0 else 1
def sumC (l : List Ty) : Nat := (l.map Ty.count).sum
theorem count_args (t : Ty) : t.count = t.own1 + sumC t.args := by
  cases t <;> simp [Ty.count, Ty.own1, Ty.form, sumC, Ty.args]
theorem count_le : ∀ t : Ty, t.count ≤ t.sz
  | .app a b => by have := count_le a; have := count_le b; simp [Ty.count, Ty.sz]; omega
  | .all _ a => by have := count_le a; simp [Ty.count, Ty.sz]; omega
  | .hole _ => by simp [Ty.count, Ty.sz]
  | .var _ => by simp [Ty.count, Ty.sz]
  | .con _ => by simp [Ty.count, Ty.sz]
theorem sumC_take {l : List Ty} {k : Nat} (h : k < l.length) : sumC (l.take (k + 1)) = sumC (l.take k) + l[k].count := by
  unfold sumC; rw [List.take_succ_eq_append_getElem h, List.map_append, List.sum_append]; simp
theorem sumC_le (l : List Ty) (k : Nat) : sumC (l.take k) ≤ sumC l := by
  induction l generalizing k with
  | nil => simp [sumC]
  | cons a r ih =>
    cases k with
    | zero => simp [sumC]
    | succ k => have := ih k; simp [sumC] at this ⊢; omega
set_option maxRecDepth 100000 in
set_option maxHeartbeats 1000000 in
theorem refsize_any (P : Nat → Prop) : ∀ (n : Nat) (t : Ty) (v : Value) (w : World), t.sz ≤ n → TyAt P w t v → t.sz ≤ 1099511627776 →
    Calls Tryd.prog 20 #[v] w fun e w' => e = .returned (.int .i64 t.count) ∧ Below w.heap.size w w'
  | 0, t, _, _, hn, _, _ => by cases t <;> simp [Ty.sz] at hn
  | n + 1, t, v, w, hn, h, hz => by
    obtain ⟨sv, rfl, hs⟩ := h.tys
    obtain ⟨A, c, rfl, hc, hm⟩ := hs.form
    have HS := Lib.hid hs
    have hca := count_args t
    have hcl := count_le t
    have HCA := Lib.hid hca
    have hl2 := t.args_le
    have IH := Lib.hid (fun (x : Ty) (hx : x ∈ t.args) (v : Value) (y : World) (h : TyAt P y x v) => refsize_any P n x v y (by have := Ty.arg_sz hx; omega) h (by have := Ty.arg_sz hx; omega))
    obtain ⟨W, eW, q1, b1, z1⟩ := one_box w (.int .i64 t.form) (.int .i64 t.num) (.string t.name) (.slice A t.args.length c) 25
    have HEW := Lib.hid eW
    have HQ := Lib.hid q1
    have HB := Lib.hid b1
    have hW : w.heap.size < W.heap.size := by omega
    clear eW b1 h hs hn hca
    have ho : t.own1 ≤ 1 := by unfold Ty.own1; split <;> omega
    have hfo : (t.form = 4 ∧ t.own1 = 0) ∨ (¬ t.form = 4 ∧ t.own1 = 1) := by unfold Ty.own1; by_cases h : t.form = 4 <;> simp [h]
    have hsum : t.own1 + sumC t.args ≤ 1099511627776 := by rw [← HCA.out]; omega
    obtain ⟨x0, x1, x2, x3, x4, _⟩ := q1
    clear hcl hz hc hm
    generalize ht : t.form = ff at *
    generalize t.num = nn at *
    generalize t.name = ss at *
    generalize t.own1 = oo at *
    clear ht
    rcases hfo with ⟨rfl, rfl⟩ | ⟨hff, rfl⟩
    · go_enter Tryd.func20, Tryd.ntmps20
      go_wp2_with fail
      rw [HEW.out]
      go_wp2_with fail
      go_loopw [3, 4] (fun o i wr => ∃ k : Nat, k ≤ t.args.length ∧ i = .int .i64 k ∧ o = .int .i64 ((0 : Int) + sumC (t.args.take k)) ∧ Below W.heap.size W wr) (fun _ i _ => t.args.length - (intOf i).toNat)
      case atStart => exact ⟨0, Nat.zero_le _, rfl, by simp [sumC], Below.refl _ _⟩
      case round =>
        obtain ⟨k, hk, rfl, rfl, hb⟩ := hrel
        obtain ⟨y0, y1, y2, y3, y4, _⟩ := HQ.out.on hb
        have HBR := Lib.hid hb
        have hbw := HB.out.trans (hb.mono HB.out.size)
        have hsl := sumC_le t.args k
        clear hb
        by_cases hlt : k < t.args.length
        · obtain ⟨g, off, A3, c3, e3, _, hg, m0, m1, m2, m3, hx⟩ := (HS.out.on hbw).at k hlt
          subst e3
          have hmem : t.args[k] ∈ t.args := List.getElem_mem hlt
          have HC := Lib.hid (IH.out _ hmem _ _ hx)
          have HTK := Lib.hid (sumC_take hlt)
          have hst := sumC_le t.args (k + 1)
          have hti := sumC_take hlt
          have hki : (k : Int) < (t.args.length : Int) := by omega
          have hk0 : (0 : Int) ≤ (k : Int) := by omega
          clear hx hbw
          generalize t.args[k] = x at *
          generalize x.form = xf, x.num = xn, x.name = xs, x.args.length = xl at *
          generalize x.count = xc at *
          generalize sumC (t.args.take k) = s1 at *
          go_wp2_with fail
          refine HC.out.mono ?_
          rintro e w1 ⟨rfl, b2⟩
          have HB2 := Lib.hid (HBR.out.trans (b2.mono HBR.out.size))
          clear b2
          go_wp2
          go_roundw
          case rel => exact ⟨k + 1, by omega, by go_num, by (rw [HTK.out]; go_num), HB2.out⟩
          case measure => simp [intOf]; omega
        · have hd : decide (k < t.args.length) = false := by simpa using hlt
          have hkl : t.args.take k = t.args := List.take_of_length_le (by omega)
          rw [hkl]
          clear hkl
          go_wp2
          go_ret
          exact ⟨by rw [HCA.out]; push_cast; rfl, hbw⟩
    · go_enter Tryd.func20, Tryd.ntmps20
      go_wp2_with fail
      rw [HEW.out]
      go_wp2_with fail
      rw [show (ff != 4) = true by simpa using hff]
      go_loopw [3, 4] (fun o i wr => ∃ k : Nat, k ≤ t.args.length ∧ i = .int .i64 k ∧ o = .int .i64 ((1 : Int) + sumC (t.args.take k)) ∧ Below W.heap.size W wr) (fun _ i _ => t.args.length - (intOf i).toNat)
      case atStart => exact ⟨0, Nat.zero_le _, rfl, by simp [sumC], Below.refl _ _⟩
      case round =>
        obtain ⟨k, hk, rfl, rfl, hb⟩ := hrel
        obtain ⟨y0, y1, y2, y3, y4, _⟩ := HQ.out.on hb
        have HBR := Lib.hid hb
        have hbw := HB.out.trans (hb.mono HB.out.size)
        have hsl := sumC_le t.args k
        clear hb
        by_cases hlt : k < t.args.length
        · obtain ⟨g, off, A3, c3, e3, _, hg, m0, m1, m2, m3, hx⟩ := (HS.out.on hbw).at k hlt
          subst e3
          have hmem : t.args[k] ∈ t.args := List.getElem_mem hlt
          have HC := Lib.hid (IH.out _ hmem _ _ hx)
          have HTK := Lib.hid (sumC_take hlt)
          have hst := sumC_le t.args (k + 1)
          have hti := sumC_take hlt
          have hki : (k : Int) < (t.args.length : Int) := by omega
          have hk0 : (0 : Int) ≤ (k : Int) := by omega
          clear hx hbw
          generalize t.args[k] = x at *
          generalize x.form = xf, x.num = xn, x.name = xs, x.args.length = xl at *
          generalize x.count = xc at *
          generalize sumC (t.args.take k) = s1 at *
          go_wp2_with fail
          refine HC.out.mono ?_
          rintro e w1 ⟨rfl, b2⟩
          have HB2 := Lib.hid (HBR.out.trans (b2.mono HBR.out.size))
          clear b2
          go_wp2
          go_roundw
          case rel => exact ⟨k + 1, by omega, by go_num, by (rw [HTK.out]; go_num), HB2.out⟩
          case measure => simp [intOf]; omega
        · have hd : decide (k < t.args.length) = false := by simpa using hlt
          have hkl : t.args.take k = t.args := List.take_of_length_le (by omega)
          rw [hkl]
          clear hkl
          go_wp2
          go_ret
          exact ⟨by rw [HCA.out]; push_cast; rfl, hbw⟩
end Go.Proofs.YtbdfjboojokgdaaDoor
